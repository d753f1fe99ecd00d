"""Point 3, and the interface of ringbeads/starts.py: right inputs."""

import inspect
import unittest

from ringbeads.rings import among, beads
from ringbeads.starts import is_start, start_at, starts
from samples import GREAT, GREAT_RINGS, GREATER, HUGE, bead_by_bead, edges, small_rings


def starts_bead_by_bead(row, times):
    """Each place from which on, for each count of beads, the kind a is ahead."""
    return [place for place in range(len(row)) if ahead(row[place:] + row[:place], times)]


def ahead(row, times):
    height = 0
    for letter in row:
        height += 1 if letter == "a" else -times
        if height <= 0:
            return False
    return True


def ahead_at_edges(ring, times, place):
    """The same of a great ring: the kind a is least ahead where a stretch begins or all ends."""
    total = sum(beads(ring))
    for many in [1, total, *[(edge - place) % total for edge in edges(ring)]]:
        found = among(ring, place, many)
        if many > 0 and found <= times * (many - found):
            return False
    return True


class Interface(unittest.TestCase):
    def test_arguments(self):
        names = [list(inspect.signature(told).parameters) for told in (starts, start_at, is_start)]
        self.assertEqual(
            names, [["ring", "times"], ["ring", "times", "number"], ["ring", "times", "place"]])

    def test_file_and_names(self):
        for told, name in ((starts, "starts"), (start_at, "start_at"), (is_start, "is_start")):
            self.assertEqual(told.__module__, "ringbeads.starts")
            self.assertEqual(told.__name__, name)

    def test_arguments_by_name(self):
        ring = [("b", 1), ("a", 3)]
        self.assertEqual(starts(ring=ring, times=2), 1)
        self.assertEqual(start_at(ring=ring, times=2, number=0), 1)
        self.assertIs(is_start(ring=ring, times=2, place=1), True)

    def test_kinds_of_what_is_told(self):
        for ring in [[("a", 3), ("b", 1)], [("b", GREAT), ("a", GREATER)], [("b", 1)]]:
            many = starts(ring, 1)
            self.assertIs(type(many), int)
            for number in range(min(many, 2)):
                self.assertIs(type(start_at(ring, 1, number)), int)
            for place in (0, sum(beads(ring)) - 1):
                self.assertIs(type(is_start(ring, 1, place)), bool)


class SmallRings(unittest.TestCase):
    def test_bead_by_bead(self):
        for ring in small_rings():
            row = bead_by_bead(ring)
            for times in range(1, 6):
                places = starts_bead_by_bead(row, times)
                self.assertEqual(starts(ring, times), len(places), (ring, times))
                told = [start_at(ring, times, number) for number in range(len(places))]
                self.assertEqual(told, places, (ring, times))
                told = [place for place in range(len(row)) if is_start(ring, times, place)]
                self.assertEqual(told, places, (ring, times))

    def test_as_many_as_the_kind_a_is_more(self):
        for ring in small_rings():
            all_a, all_b = beads(ring)
            for times in (1, 2, 3, 4, GREAT, HUGE):
                self.assertEqual(starts(ring, times), max(0, all_a - times * all_b))

    def test_just_as_many_is_not_more(self):
        for ring in ([("a", 1), ("b", 1)], [("a", 2), ("b", 3), ("a", 1)]):
            self.assertEqual(starts(ring, 1), 0)
        self.assertEqual(starts([("a", 3), ("b", 1)], 3), 0)
        self.assertEqual(starts([("a", 3), ("b", 1)], 2), 1)
        self.assertIs(is_start([("a", 3), ("b", 1)], 3, 0), False)
        self.assertIs(is_start([("a", 3), ("b", 1)], 2, 0), True)

    def test_around_behind_the_last_bead(self):
        ring = [("b", 1), ("a", 2), ("b", 1), ("a", 3)]
        self.assertEqual([start_at(ring, 1, number) for number in range(3)], [1, 4, 5])
        ring = [("a", 3), ("b", 2), ("a", 2)]
        self.assertEqual([start_at(ring, 1, number) for number in range(3)], [0, 5, 6])


class OneKindAlone(unittest.TestCase):
    def test_of_the_kind_a_each_place_is_a_start(self):
        for ring in ([("a", 1)], [("a", 4)], [("a", 2), ("a", 1)], [("a", GREAT), ("a", 5)]):
            total = sum(beads(ring))
            for times in (1, 2, GREAT, HUGE):
                self.assertEqual(starts(ring, times), total)
                for place in (0, total // 2, total - 1):
                    self.assertEqual(start_at(ring, times, place), place)
                    self.assertIs(is_start(ring, times, place), True)

    def test_of_the_kind_b_none_is(self):
        for ring in ([("b", 1)], [("b", 4)], [("b", 2), ("b", 1)], [("b", GREAT), ("b", 5)]):
            total = sum(beads(ring))
            for times in (1, 2, GREAT, HUGE):
                self.assertEqual(starts(ring, times), 0)
                for place in (0, total // 2, total - 1):
                    self.assertIs(is_start(ring, times, place), False)


class GreatRings(unittest.TestCase):
    def test_a_ring_told_by_hand(self):
        ring = [("b", GREAT), ("a", GREATER)]
        self.assertEqual(starts(ring, 1), GREATER - GREAT)
        self.assertEqual(start_at(ring, 1, 0), GREAT)
        self.assertEqual(start_at(ring, 1, 5), GREAT + 5)
        self.assertEqual(start_at(ring, 1, GREATER - GREAT - 1), GREATER - 1)
        self.assertIs(is_start(ring, 1, GREAT - 1), False)
        self.assertIs(is_start(ring, 1, GREAT), True)
        self.assertIs(is_start(ring, 1, GREATER - 1), True)
        self.assertIs(is_start(ring, 1, GREATER), False)

    def test_times_of_forty_figures(self):
        ring = [("a", 3), ("b", 2), ("a", 2 * GREAT + 10)]
        self.assertEqual(starts(ring, GREAT), 13)
        places = [start_at(ring, GREAT, number) for number in range(13)]
        self.assertEqual(places, list(range(5, 18)))
        self.assertEqual(starts(ring, GREAT + 7), 0)
        ring = [("a", GREAT + 5), ("b", 1), ("a", GREAT + 2), ("b", 1)]
        places = [start_at(ring, GREAT, number) for number in range(7)]
        self.assertEqual(places, [0, 1, 2, 3, 4, GREAT + 6, GREAT + 7])
        self.assertEqual(starts([("b", GREATER), ("a", GREATER * GREAT + 1)], GREAT), 1)
        self.assertEqual(start_at([("b", GREATER), ("a", GREATER * GREAT + 1)], GREAT, 0), GREATER)

    def test_each_told_start_is_one_and_its_neighbours_have_neighbour_numbers(self):
        for ring in GREAT_RINGS:
            for times in (1, 2, 3, GREAT):
                many = starts(ring, times)
                all_a, all_b = beads(ring)
                self.assertEqual(many, max(0, all_a - times * all_b))
                numbers = [0, 1, many // 3, many // 2, many - 2, many - 1]
                for number in [number for number in numbers if 0 <= number < many]:
                    place = start_at(ring, times, number)
                    self.assertTrue(ahead_at_edges(ring, times, place))
                    self.assertIs(is_start(ring, times, place), True)
                    if number + 1 < many:
                        self.assertLess(place, start_at(ring, times, number + 1))

    def test_is_start_at_and_beside_each_edge(self):
        for ring in GREAT_RINGS:
            total = sum(beads(ring))
            places = [(edge + by) % total for edge in edges(ring) for by in (-2, -1, 0, 1, 2)]
            for times in (1, 2, 3, GREAT):
                many = starts(ring, times)
                ends = [start_at(ring, times, number) for number in (0, many - 1) if many > 0]
                beside = [(end + by) % total for end in ends for by in (-1, 1)]
                for place in [*places, *beside]:
                    told = ahead_at_edges(ring, times, place)
                    self.assertIs(is_start(ring, times, place), told)

    def test_great_runs_rise_one_by_one_and_jump_between(self):
        # Of the first stretch all but 4 are starts, of the one behind it 7 are.
        ring = [("a", GREAT), ("b", 4), ("a", 10), ("b", 3)]
        self.assertEqual(starts(ring, 1), GREAT + 3)
        self.assertEqual(start_at(ring, 1, GREAT - 5), GREAT - 5)
        self.assertEqual(start_at(ring, 1, GREAT - 4), GREAT + 4)
        self.assertEqual(start_at(ring, 1, GREAT + 2), GREAT + 10)
        self.assertIs(is_start(ring, 1, GREAT - 4), False)
        self.assertIs(is_start(ring, 1, GREAT + 10), True)
        self.assertIs(is_start(ring, 1, GREAT + 11), False)

    def test_many_stretches(self):
        ring = [("a", 2), ("b", 1)] * 20000
        self.assertEqual(starts(ring, 1), 20000)
        self.assertEqual(start_at(ring, 1, 0), 0)
        self.assertEqual(start_at(ring, 1, 19999), 59997)
        self.assertIs(is_start(ring, 1, 59997), True)
        self.assertIs(is_start(ring, 1, 59998), False)


class WhatIsHandedIn(unittest.TestCase):
    def test_the_ring_stays_as_it_was(self):
        for ring in [*small_rings()[:50], *GREAT_RINGS]:
            as_it_was = list(ring)
            many = starts(ring, 1)
            if many > 0:
                start_at(ring, 1, many - 1)
            is_start(ring, 1, 0)
            self.assertEqual(len(ring), len(as_it_was))
            for stretch, was in zip(ring, as_it_was):
                self.assertIs(stretch, was)

    def test_the_ring_is_not_kept(self):
        ring = [("b", 1), ("a", 3)]
        self.assertEqual((starts(ring, 1), start_at(ring, 1, 0)), (2, 1))
        self.assertIs(is_start(ring, 1, 0), False)
        ring.reverse()
        self.assertEqual((starts(ring, 1), start_at(ring, 1, 0)), (2, 0))
        self.assertIs(is_start(ring, 1, 0), True)
        ring[0] = ("b", 3)
        self.assertEqual(starts(ring, 1), 0)
        self.assertIs(is_start(ring, 1, 0), False)


if __name__ == "__main__":
    unittest.main()
