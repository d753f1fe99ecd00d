"""Rings: how many beads of either kind, the kind at a place, and among any many."""

from ringbeads.errors import BadCount, BadPlace, BadRing

KIND_A = "a"
KIND_B = "b"


def beads(ring):
    """Tell how many beads of the kind a there are, and how many of the kind b."""
    check_ring(ring)
    return many_of(ring, KIND_A), many_of(ring, KIND_B)


def kind_at(ring, place):
    """Tell the letter of the bead at a place."""
    check_ring(ring)
    check_place(ring, place)
    at = 0
    left = place
    while left >= ring[at][1]:
        left -= ring[at][1]
        at += 1
    # The letter that was handed in is not handed back: what is told is new.
    return KIND_A if ring[at][0] == KIND_A else KIND_B


def among(ring, place, many):
    """Tell how many beads of the kind a are among so many from a place on."""
    check_ring(ring)
    check_place(ring, place)
    check_many(many)
    return inside(ring, place, many)


def inside(ring, place, many):
    """Tell how many beads of the kind a are among so many, all of which is checked."""
    return from_first(ring, place + many) - from_first(ring, place)


def from_first(ring, many):
    """Tell how many beads of the kind a are among so many from place 0 on."""
    # Whole rounds are multiplied: many may be far too great to go around bead by bead.
    rounds, left = divmod(many, size(ring))
    found = rounds * many_of(ring, KIND_A)
    for kind, length in ring:
        here = min(left, length)
        if kind == KIND_A:
            found += here
        left -= here
    return found


def many_of(ring, letter):
    """Tell how many beads of one kind there are."""
    return sum([length for kind, length in ring if kind == letter])


def size(ring):
    """Tell how many beads there are."""
    return sum([length for _, length in ring])


# The messages below name no value: one that is handed in may be such that it
# cannot be written out (a number of very many digits, for one).


def check_ring(ring):
    """Refuse what is no ring."""
    if not isinstance(ring, list) or len(ring) == 0:
        raise BadRing("a ring is a list of one stretch or more")
    for stretch in ring:
        if not is_stretch(stretch):
            raise BadRing("a stretch is a pair of a letter, a or b, and a whole number from 1 on")


def check_place(ring, place):
    """Refuse what is no place of a ring."""
    if not is_place(ring, place):
        raise BadPlace("a place is a whole number from 0 to one less than there are beads")


def check_many(many):
    """Refuse what is no whole number from 0 on."""
    if not is_whole(many) or many < 0:
        raise BadCount("a count of beads is a whole number from 0 on")


def is_place(ring, thing):
    """Tell whether something is a place of a ring."""
    return is_whole(thing) and 0 <= thing < size(ring)


def is_stretch(thing):
    """Tell whether something is a letter with a whole number from 1 on."""
    if not isinstance(thing, tuple) or len(thing) != 2:
        return False
    letter, length = thing
    return is_letter(letter) and is_whole(length) and length >= 1


def is_letter(thing):
    """Tell whether something is the letter of a kind."""
    # Only strings are compared: what is of another kind may fail when compared.
    return isinstance(thing, str) and (thing == KIND_A or thing == KIND_B)


def is_whole(thing):
    """Tell whether something is a whole number."""
    # To Python True and False are whole numbers, here they are not.
    return isinstance(thing, int) and not isinstance(thing, bool)
