"""What the tests hand in: right rings, and wrong things of any kind."""

from collections import deque
from decimal import Decimal
from fractions import Fraction
from itertools import product

GREAT = 10 ** 39 + 7
GREATER = 3 * 10 ** 39 + 11
# So many digits that Python refuses to write the number out.
HUGE = 10 ** 6000


class Touchy:
    """Something that fails whatever it is asked."""

    def _fail(self, *rest):
        raise AssertionError("asked of what is of a wrong kind")

    __eq__ = __ne__ = __lt__ = __le__ = __gt__ = __ge__ = _fail
    __bool__ = __len__ = __iter__ = __contains__ = __getitem__ = _fail
    __int__ = __index__ = __float__ = __hash__ = _fail
    __repr__ = __str__ = __format__ = _fail
    __add__ = __radd__ = __sub__ = __rsub__ = __mod__ = __rmod__ = _fail


class Indexed:
    """Something that can be used as an index, but is no number."""

    def __index__(self):
        return 1


def small_rings():
    """Rings of one to three stretches of one to three beads, and a few longer ones."""
    stretches = [(letter, many) for letter in "ab" for many in (1, 2, 3)]
    rings = [list(row) for many in (1, 2, 3) for row in product(stretches, repeat=many)]
    rings.append([("a", 1), ("b", 1)] * 5)
    rings.append([("a", 1)] * 9)
    rings.append([("b", 2), ("b", 4), ("a", 5), ("a", 1), ("b", 1), ("a", 3)])
    return rings


def bead_by_bead(ring):
    return "".join([letter * many for letter, many in ring])


def counts(row, many):
    """How many of the kind a so many beads have from each place on."""
    return [(row * 2)[place:place + many].count("a") for place in range(len(row))]


def edges(ring):
    """The places where the stretches begin."""
    places = [0]
    for _, length in ring[:-1]:
        places.append(places[-1] + length)
    return places


RINGS = [
    [("a", 1)],
    [("b", 1)],
    [("a", 2), ("b", 3)],
    [("b", 1), ("b", 1), ("a", 4)],
    [("a", GREAT)],
    [("b", GREAT), ("a", GREATER)],
    [("a", HUGE), ("b", HUGE)],
]

# Of lengths of forty figures and more, most of them with the kind a ahead.
GREAT_RINGS = [
    [("a", GREAT)],
    [("b", GREAT)],
    [("a", GREATER), ("b", GREAT)],
    [("b", GREAT), ("a", GREATER)],
    [("a", GREAT), ("b", 1), ("a", GREATER), ("b", GREAT // 5), ("b", 3), ("a", 1)],
    [("b", GREAT), ("a", GREATER), ("a", GREATER), ("b", GREAT), ("a", 10 * GREATER)],
    [("a", 2), ("b", GREAT), ("a", 7 * GREATER), ("b", GREATER), ("a", GREAT), ("b", 1)],
    [("b", 5), ("a", HUGE), ("b", GREAT), ("a", GREATER)],
    [("a", HUGE), ("b", HUGE)],
]

NO_WHOLE_NUMBERS = [
    None, True, False, 0.0, 1.0, 1.5, -1.0, 1e300, float("nan"), float("inf"), float("-inf"),
    0j, 1j, Fraction(0), Fraction(1), Decimal(0), Decimal(1),
    "", "0", "1", "a", b"", b"0", bytearray(b"1"), [], [0], [1], (), (0,), (1,), {}, {0: 0}, {1},
    set(), frozenset(), range(1), range(0, 2), object(), int, len, lambda: 0, ..., NotImplemented,
    Indexed(), Touchy(), [("a", 1)],
]

NO_LETTERS = [
    "", "A", "B", "c", "ab", "aa", "bb", "ba", "a ", " a", "a\n", "b\0", "\u0430", "\u00e1", "0",
    None, True, False, 0, 1, -1, 97, 1.0, 1j, b"", b"a", b"b", bytearray(b"a"),
    [], ["a"], (), ("a",), {}, {"a": 1}, {"a"}, set(), frozenset("a"), object(), str, len, ...,
    Touchy(),
]

NO_STRETCHES = [
    None, True, False, 0, 1, -1, 1.5, "", "a", "a1", "ab", b"a1", object(), tuple, len, ...,
    ["a", 1], ["b", 2], {"a": 1}, {"a", 1}, frozenset(["a", 1]), deque(["a", 1]), range(2), Touchy(),
    (), ("a",), (1,), ("a", 1, 1), ("a", 1, None), ("a", "b", 1), (1, "a"), (("a", 1),),
    (("a", 1), ("b", 1)), ("a", 1, "b", 1), (1, 1), ("a", "a"), [("a", 1)],
]
NO_STRETCHES += [(thing, 1) for thing in NO_LETTERS]
NO_STRETCHES += [("a", thing) for thing in NO_WHOLE_NUMBERS]
NO_STRETCHES += [("b", thing) for thing in NO_WHOLE_NUMBERS]
NO_STRETCHES += [(letter, many) for letter in "ab" for many in (0, -1, -2, -GREAT, -HUGE)]

NO_LISTS = [
    None, True, False, 0, 1, -1, 1.5, float("nan"), 1j, "", "a", "ab", "a1", b"", b"ab", object(),
    list, len, ..., (), ("a", 1), (("a", 1),), (("a", 1), ("b", 2)), {}, {"a": 1}, {("a", 1): 0},
    {0: ("a", 1)}, set(), {("a", 1)}, frozenset([("a", 1)]), deque([("a", 1)]), range(3),
    iter([("a", 1)]), Touchy(), HUGE,
]

SOME_NO_RINGS = [None, [], [("a", 1), ("b", 0)], [("a", 1), ["b", 1]], (("a", 1),), [("a", True)]]


def no_rings():
    """Whatever is no ring: wrong ones alone, behind right ones, before, and between them."""
    rings = [*NO_LISTS, [], [[]], [[("a", 1)]]]
    for thing in NO_STRETCHES:
        rings.append([thing])
        rings.append([("a", 5), ("b", 5), thing])
        rings.append([thing, ("a", 5), ("b", 5)])
        rings.append([("b", GREAT), thing, ("a", GREAT)])
    within = [("a", 1)]
    within.append(within)
    rings.append(within)
    return rings


def no_places(total):
    """Whatever is no place of a ring of so many beads."""
    beyond = [total, total + 1, 2 * total, total + GREAT, total * HUGE]
    return [*NO_WHOLE_NUMBERS, -1, -2, -total, -total - 1, -GREAT, -HUGE, *beyond]


def no_counts():
    """Whatever is no whole number from 0 on."""
    return [*NO_WHOLE_NUMBERS, -1, -2, -GREAT, -HUGE]


def no_times():
    """Whatever is no whole number from 1 on."""
    return [*NO_WHOLE_NUMBERS, 0, -1, -2, -GREAT, -HUGE]


def no_numbers(many):
    """Whatever is no number, counted from 0, of one of so many things."""
    return [*NO_WHOLE_NUMBERS, -1, -2, -GREAT, -HUGE, many, many + 1, many + GREAT, many + HUGE]
