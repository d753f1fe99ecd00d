"""Point 1 and the interface of ringbeads/starts.py: wrong inputs."""

import unittest

from refused import Refused
from ringbeads.errors import BadCount, BadPlace, BadRing, BadTimes
from ringbeads.rings import beads
from ringbeads.starts import is_start, start_at, starts
from samples import GREAT, RINGS, SOME_NO_RINGS, no_numbers, no_places, no_rings, no_times


class NoRing(Refused):
    def test_each_function(self):
        for ring in no_rings():
            self.refused(BadRing, starts, ring, 1)
            self.refused(BadRing, start_at, ring, 1, 0)
            self.refused(BadRing, is_start, ring, 1, 0)

    def test_refused_before_wrong_times(self):
        for ring in SOME_NO_RINGS:
            for times in no_times():
                self.refused(BadRing, starts, ring, times)
                self.refused(BadRing, start_at, ring, times, 0)
                self.refused(BadRing, start_at, ring, times, None)
                self.refused(BadRing, is_start, ring, times, 0)
                self.refused(BadRing, is_start, ring, times, None)

    def test_refused_before_a_wrong_number_or_place(self):
        for ring in SOME_NO_RINGS:
            for number in no_numbers(1):
                self.refused(BadRing, start_at, ring, 1, number)
            for place in no_places(1):
                self.refused(BadRing, is_start, ring, 1, place)


class NoTimes(Refused):
    def test_each_function(self):
        for ring in RINGS:
            for times in no_times():
                self.refused(BadTimes, starts, ring, times)
                self.refused(BadTimes, start_at, ring, times, 0)
                self.refused(BadTimes, is_start, ring, times, 0)

    def test_refused_before_a_wrong_number(self):
        for times in no_times():
            for number in (None, True, -1, 3, "0", 1.0, [0]):
                self.refused(BadTimes, start_at, [("a", 3)], times, number)
                self.refused(BadTimes, start_at, [("b", 3)], times, number)
        for number in no_numbers(3):
            self.refused(BadTimes, start_at, [("a", 3)], 0, number)

    def test_refused_before_a_wrong_place(self):
        for times in no_times():
            for place in (None, True, -1, 3, "0", 1.0, [0]):
                self.refused(BadTimes, is_start, [("a", 3)], times, place)
        for place in no_places(3):
            self.refused(BadTimes, is_start, [("a", 3)], 0, place)

    def test_one_is_right(self):
        self.assertEqual(starts([("a", 2)], 1), 2)


class NoNumber(Refused):
    def test_start_at(self):
        for ring in RINGS:
            for times in (1, 2, GREAT):
                for number in no_numbers(starts(ring, times)):
                    self.refused(BadCount, start_at, ring, times, number)

    def test_where_there_are_none_each_number_is_refused(self):
        for ring in ([("b", 1)], [("a", 1), ("b", 1)], [("a", GREAT), ("b", GREAT)]):
            for number in (0, 1, 2, -1, GREAT):
                self.refused(BadCount, start_at, ring, 1, number)

    def test_a_place_beyond_the_last_number_is_no_number(self):
        ring = [("b", 1), ("a", 3)]
        self.assertEqual(start_at(ring, 1, 1), 2)
        for number in (2, 3, 4):
            self.refused(BadCount, start_at, ring, 1, number)


class NoPlace(Refused):
    def test_is_start(self):
        for ring in RINGS:
            for times in (1, 2, GREAT):
                for place in no_places(sum(beads(ring))):
                    self.refused(BadPlace, is_start, ring, times, place)

    def test_the_last_place_is_one(self):
        for ring in RINGS:
            self.assertIn(is_start(ring, 1, sum(beads(ring)) - 1), (True, False))


class WrongThingsStay(Refused):
    def test_what_is_refused_is_not_changed(self):
        ring = [("a", 2), ("b", 1)]
        wrong = [0]
        self.refused(BadTimes, starts, ring, wrong)
        self.refused(BadCount, start_at, ring, 1, wrong)
        self.refused(BadPlace, is_start, ring, 1, wrong)
        self.refused(BadRing, starts, wrong, 1)
        self.assertEqual((ring, wrong), ([("a", 2), ("b", 1)], [0]))


if __name__ == "__main__":
    unittest.main()
