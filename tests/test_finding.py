"""Point 4, and the interface of ringbeads/finding.py."""

import inspect
import unittest

from refused import Refused
from ringbeads.answers import Found, Never
from ringbeads.errors import BadCount, BadRing
from ringbeads.finding import sought
from ringbeads.rings import among, beads
from samples import (
    GREAT, GREAT_RINGS, GREATER, HUGE, NO_WHOLE_NUMBERS, RINGS, SOME_NO_RINGS, bead_by_bead,
    counts, edges, no_counts, no_rings, small_rings)


def counts_at_edges(ring, many):
    """The same of a great ring, from where a stretch begins behind or ahead: the least and
    the most are among them."""
    total = sum(beads(ring))
    places = [(edge - by) % total for edge in edges(ring) for by in (0, many)]
    return [among(ring, place, many) for place in places]


def counts_of_beads(ring):
    """Counts of beads of a great ring, from none to all."""
    total = sum(beads(ring))
    told = [0, 1, 2, total // 7, total // 2, total - 2, total - 1, total]
    for _, length in ring:
        told += [length - 1, length, length + 1, total - length]
    return [many for many in told if 0 <= many <= total]


class Interface(unittest.TestCase):
    def test_arguments_name_and_file(self):
        self.assertEqual(list(inspect.signature(sought).parameters), ["ring", "many", "number"])
        self.assertEqual((sought.__module__, sought.__name__), ("ringbeads.finding", "sought"))

    def test_arguments_by_name(self):
        self.assertEqual(sought(ring=[("b", 1), ("a", 1)], many=1, number=1).place, 1)


class Sought(unittest.TestCase):
    def found_or_never(self, ring, many, number, least, most):
        """Just the right one of the two is told, with the right fields, and shows it."""
        answer = sought(ring, many, number)
        self.assertIs(answer.shows(ring, many, number), True)
        if least <= number <= most:
            self.assertIs(type(answer), Found)
            self.assertEqual(among(ring, answer.place, many), number)
            self.assertIs(type(answer.place), int)
        else:
            self.assertIs(type(answer), Never)
            self.assertEqual(vars(answer), {"least": least, "most": most})
            self.assertEqual((type(answer.least), type(answer.most)), (int, int))

    def test_small_rings_bead_by_bead(self):
        for ring in small_rings():
            row = bead_by_bead(ring)
            for many in range(len(row) + 1):
                told = counts(row, many)
                for number in range(min(told) - 1, max(told) + 2):
                    self.found_or_never(ring, many, number, min(told), max(told))
                    answer = sought(ring, many, number)
                    if number in told:
                        self.assertEqual(told[answer.place], number, (ring, many, number))

    def test_great_rings(self):
        for ring in GREAT_RINGS:
            for many in counts_of_beads(ring):
                told = counts_at_edges(ring, many)
                least, most = min(told), max(told)
                beyond = [least - 1, most + 1, -1, -HUGE, -GREAT, most + GREAT, most + HUGE]
                between = [least, least + 1, (least + most) // 2, most - 1, most]
                for number in [*beyond, *between]:
                    self.found_or_never(ring, many, number, least, most)

    def test_a_great_ring_told_by_hand(self):
        ring = [("a", GREAT), ("b", GREATER), ("a", 5)]
        self.assertEqual(sought(ring, GREAT + 5, GREAT + 5).place, GREAT + GREATER)
        self.assertEqual(vars(sought(ring, GREAT + 5, GREAT + 6)), {"least": 0, "most": GREAT + 5})
        self.assertEqual(vars(sought(ring, GREATER + 2, 1)), {"least": 2, "most": GREAT + 5})
        self.assertIn(sought(ring, GREATER + 2, 2).place, range(GREAT - 2, GREAT + 1))

    def test_no_beads_and_all_beads(self):
        for ring in [*RINGS, *small_rings()[:50]]:
            all_a, all_b = beads(ring)
            self.found_or_never(ring, 0, 0, 0, 0)
            for number in (-HUGE, -1, 1, HUGE):
                self.found_or_never(ring, 0, number, 0, 0)
            for number in (-HUGE, -1, all_a - 1, all_a, all_a + 1, 3 * HUGE):
                self.found_or_never(ring, all_a + all_b, number, all_a, all_a)

    def test_one_kind_alone(self):
        for total in (1, 2, 5, GREAT):
            for many in (0, 1, total // 2, total - 1, total):
                for number in (-1, 0, 1, many - 1, many, many + 1, GREATER):
                    self.found_or_never([("a", total)], many, number, many, many)
                    self.found_or_never([("b", total)], many, number, 0, 0)

    def test_many_stretches(self):
        ring = [("a", 1), ("b", 2)] * 20000
        ring.append(("a", 3))
        self.assertEqual(vars(sought(ring, 3, 5)), {"least": 1, "most": 3})
        self.assertEqual(among(ring, sought(ring, 30001, 10003).place, 30001), 10003)
        self.assertEqual(sought(ring, 3, 3).place, 60000)

    def test_what_is_told_is_new(self):
        ring = [("a", 2), ("b", 1)]
        self.assertIsNot(sought(ring, 1, 1), sought(ring, 1, 1))
        self.assertIsNot(sought(ring, 1, 2), sought(ring, 1, 2))
        sought(ring, 1, 1).place = 77
        self.assertNotEqual(sought(ring, 1, 1).place, 77)

    def test_the_ring_stays_as_it_was(self):
        for ring in [*small_rings()[:50], *GREAT_RINGS]:
            as_it_was = list(ring)
            for many in counts_of_beads(ring):
                for number in (-1, 0, 1, many):
                    sought(ring, many, number)
            self.assertEqual(len(ring), len(as_it_was))
            for stretch, was in zip(ring, as_it_was):
                self.assertIs(stretch, was)

    def test_the_ring_is_not_kept(self):
        ring = [("b", 1), ("a", 3)]
        answer = sought(ring, 1, 0)
        self.assertEqual(answer.place, 0)
        ring.reverse()
        self.assertEqual(answer.place, 0)
        self.assertIs(answer.shows(ring, 1, 0), False)
        self.assertEqual(sought(ring, 1, 0).place, 3)


class SoughtRefused(Refused):
    def test_no_ring(self):
        for ring in no_rings():
            self.refused(BadRing, sought, ring, 0, 0)
            self.refused(BadRing, sought, ring, 1, 1)

    def test_no_ring_is_refused_before_a_wrong_count_or_number(self):
        for ring in SOME_NO_RINGS:
            for wrong in no_counts():
                self.refused(BadRing, sought, ring, wrong, 0)
                self.refused(BadRing, sought, ring, 0, wrong)
                self.refused(BadRing, sought, ring, wrong, wrong)

    def test_no_count_of_beads(self):
        for ring in RINGS:
            total = sum(beads(ring))
            beyond = [total + 1, total + 2, 2 * total, total + GREAT, total + HUGE]
            for many in [*no_counts(), *[many for many in beyond if many > total]]:
                self.refused(BadCount, sought, ring, many, 0)
                self.refused(BadCount, sought, ring, many, -1)
                self.refused(BadCount, sought, ring, many, None)

    def test_no_whole_number(self):
        for ring in RINGS:
            for number in NO_WHOLE_NUMBERS:
                for many in (0, 1, sum(beads(ring))):
                    self.refused(BadCount, sought, ring, many, number)

    def test_a_number_below_zero_or_beyond_all_is_a_number(self):
        for number in (-1, -HUGE, 4, HUGE):
            self.assertEqual(vars(sought([("a", 3)], 2, number)), {"least": 2, "most": 2})

    def test_what_is_refused_is_not_changed(self):
        ring = [("a", 2), ["b", 1]]
        wrong = [0]
        self.refused(BadRing, sought, ring, 0, 0)
        self.assertEqual(ring, [("a", 2), ["b", 1]])
        self.refused(BadCount, sought, [("a", 2)], wrong, 0)
        self.refused(BadCount, sought, [("a", 2)], 0, wrong)
        self.assertEqual(wrong, [0])


if __name__ == "__main__":
    unittest.main()
