"""Point 1 and the interface of ringbeads/rings.py: wrong inputs."""

import unittest

from refused import Refused
from ringbeads.errors import BadCount, BadPlace, BadRing
from ringbeads.rings import among, beads, kind_at
from samples import GREAT, RINGS, SOME_NO_RINGS, no_counts, no_places, no_rings


class NoRing(Refused):
    def test_beads(self):
        for ring in no_rings():
            self.refused(BadRing, beads, ring)

    def test_kind_at(self):
        for ring in no_rings():
            self.refused(BadRing, kind_at, ring, 0)

    def test_among(self):
        for ring in no_rings():
            self.refused(BadRing, among, ring, 0, 1)
            self.refused(BadRing, among, ring, 0, 0)

    def test_refused_before_a_wrong_place(self):
        for place in no_places(1):
            for ring in SOME_NO_RINGS:
                self.refused(BadRing, kind_at, ring, place)
                self.refused(BadRing, among, ring, place, 1)

    def test_refused_before_a_wrong_count(self):
        for many in no_counts():
            for ring in SOME_NO_RINGS:
                self.refused(BadRing, among, ring, 0, many)
                self.refused(BadRing, among, ring, -1, many)


class NoPlace(Refused):
    def test_kind_at(self):
        for ring in RINGS:
            for place in no_places(sum(beads(ring))):
                self.refused(BadPlace, kind_at, ring, place)

    def test_among(self):
        for ring in RINGS:
            for place in no_places(sum(beads(ring))):
                self.refused(BadPlace, among, ring, place, 1)
                self.refused(BadPlace, among, ring, place, 0)

    def test_refused_before_a_wrong_count(self):
        for ring in RINGS:
            for many in no_counts():
                for place in (None, True, -1, sum(beads(ring))):
                    self.refused(BadPlace, among, ring, place, many)

    def test_the_last_place_is_one(self):
        for ring in RINGS:
            last = sum(beads(ring)) - 1
            self.assertEqual(kind_at(ring, last), ring[-1][0])
            self.assertEqual(among(ring, last, 1), int(ring[-1][0] == "a"))


class NoCount(Refused):
    def test_among(self):
        for ring in RINGS:
            for many in no_counts():
                self.refused(BadCount, among, ring, 0, many)
                self.refused(BadCount, among, ring, sum(beads(ring)) - 1, many)

    def test_zero_and_more_than_all_are_counts(self):
        self.assertEqual(among([("a", 1)], 0, 0), 0)
        self.assertEqual(among([("a", 1)], 0, GREAT), GREAT)


class WrongThingsStay(Refused):
    def test_what_is_refused_is_not_changed(self):
        ring = [("a", 1), ["b", 2]]
        self.refused(BadRing, beads, ring)
        self.assertEqual(ring, [("a", 1), ["b", 2]])
        ring = [("a", 1), ("b", 2)]
        place = [0]
        many = {0: 0}
        self.refused(BadPlace, among, ring, place, many)
        self.refused(BadCount, among, ring, 0, many)
        self.assertEqual((ring, place, many), ([("a", 1), ("b", 2)], [0], {0: 0}))


if __name__ == "__main__":
    unittest.main()
