"""Point 4, and the interface of ringbeads/answers.py: what shows tells."""

import inspect
import unittest

from ringbeads.answers import Answer, Found, Never
from samples import GREAT, GREATER, HUGE, bead_by_bead, counts, small_rings


class Interface(unittest.TestCase):
    def test_classes(self):
        self.assertEqual(Found.__bases__, (Answer,))
        self.assertEqual(Never.__bases__, (Answer,))
        for kind, name in ((Answer, "Answer"), (Found, "Found"), (Never, "Never")):
            self.assertEqual(kind.__module__, "ringbeads.answers")
            self.assertEqual(kind.__name__, name)

    def test_fields(self):
        self.assertEqual(list(inspect.signature(Found).parameters), ["place"])
        self.assertEqual(list(inspect.signature(Never).parameters), ["least", "most"])
        self.assertEqual(vars(Found(7)), {"place": 7})
        self.assertEqual(vars(Found(place=-GREAT)), {"place": -GREAT})
        self.assertEqual(vars(Never(3, 5)), {"least": 3, "most": 5})
        self.assertEqual(vars(Never(most=2, least=9)), {"least": 9, "most": 2})

    def test_each_has_its_own_shows(self):
        for kind in (Found, Never):
            self.assertIn("shows", vars(kind))
            names = list(inspect.signature(kind.shows).parameters)
            self.assertEqual(names, ["self", "ring", "many", "number"])

    def test_shows_by_name(self):
        self.assertIs(Found(0).shows(ring=[("a", 1)], many=1, number=1), True)
        self.assertIs(Never(1, 1).shows(ring=[("a", 1)], many=1, number=0), True)


class FoundShows(unittest.TestCase):
    def test_small_rings_bead_by_bead(self):
        for ring in small_rings():
            row = bead_by_bead(ring)
            for many in range(len(row) + 1):
                for place, found in enumerate(counts(row, many)):
                    for number in (found - 1, found, found + 1, -found):
                        told = Found(place).shows(ring, many, number)
                        self.assertIs(told, number == found, (ring, many, place, number))

    def test_what_is_no_place_shows_nothing(self):
        for ring in small_rings()[:50]:
            total = len(bead_by_bead(ring))
            for place in (-1, -total, -GREAT, total, total + 1, 2 * total, GREAT, HUGE, -HUGE):
                for many in range(total + 1):
                    for number in range(-1, total + 2):
                        self.assertIs(Found(place).shows(ring, many, number), False)

    def test_great_ring(self):
        ring = [("a", GREAT), ("b", GREATER), ("a", HUGE)]
        total = GREAT + GREATER + HUGE
        self.assertIs(Found(0).shows(ring, GREATER, GREAT), True)
        self.assertIs(Found(1).shows(ring, GREATER, GREAT - 1), True)
        self.assertIs(Found(1).shows(ring, GREATER, GREAT), False)
        self.assertIs(Found(GREAT).shows(ring, GREATER, 0), True)
        self.assertIs(Found(total - 1).shows(ring, total, GREAT + HUGE), True)
        self.assertIs(Found(total - 2).shows(ring, GREAT + 4, GREAT + 2), True)
        self.assertIs(Found(total).shows(ring, total, GREAT + HUGE), False)
        self.assertIs(Found(-1).shows(ring, total, GREAT + HUGE), False)

    def test_by_the_place_as_it_stands_then(self):
        ring = [("a", 2), ("b", 3)]
        answer = Found(0)
        self.assertIs(answer.shows(ring, 2, 2), True)
        answer.place = 1
        self.assertIs(answer.shows(ring, 2, 2), False)
        self.assertIs(answer.shows(ring, 2, 1), True)
        answer.place = 5
        self.assertIs(answer.shows(ring, 2, 2), False)
        answer.place = 0
        self.assertIs(answer.shows(ring, 2, 2), True)


class NeverShows(unittest.TestCase):
    def test_small_rings_bead_by_bead(self):
        for ring in small_rings()[:80]:
            row = bead_by_bead(ring)
            for many in range(len(row) + 1):
                found = counts(row, many)
                least, most = min(found), max(found)
                for number in range(least - 2, most + 3):
                    told = Never(least, most).shows(ring, many, number)
                    self.assertIs(told, number < least or number > most, (ring, many, number))

    def test_least_and_most_too_small_and_too_great(self):
        for ring in small_rings()[:80]:
            row = bead_by_bead(ring)
            for many in range(len(row) + 1):
                found = counts(row, many)
                least, most = min(found), max(found)
                for low in (-1, 0, 1):
                    for high in (-1, 0, 1):
                        answer = Never(least + low, most + high)
                        for number in (least - 1, most + 1, -GREAT, GREAT):
                            told = answer.shows(ring, many, number)
                            self.assertIs(told, low == 0 and high == 0, (ring, many, number))

    def test_exchanged(self):
        ring = [("a", 2), ("b", 3)]
        for number in (-1, 0, 1, 2, 3):
            self.assertIs(Never(2, 0).shows(ring, 2, number), False)
        self.assertIs(Never(0, 2).shows(ring, 2, 3), True)
        self.assertIs(Never(0, 2).shows(ring, 2, -1), True)

    def test_great_ring(self):
        ring = [("a", GREAT), ("b", GREATER), ("a", HUGE)]
        total = GREAT + GREATER + HUGE
        self.assertIs(Never(0, GREATER).shows(ring, GREATER, GREATER + 1), True)
        self.assertIs(Never(0, GREATER).shows(ring, GREATER, -1), True)
        self.assertIs(Never(0, GREATER).shows(ring, GREATER, GREATER), False)
        self.assertIs(Never(0, GREATER - 1).shows(ring, GREATER, GREATER + 1), False)
        self.assertIs(Never(5, GREATER + 5).shows(ring, GREATER + 5, 4), True)
        self.assertIs(Never(0, GREATER + 5).shows(ring, GREATER + 5, -1), False)
        self.assertIs(Never(GREAT + HUGE, GREAT + HUGE).shows(ring, total, 0), True)
        self.assertIs(Never(0, 0).shows(ring, 0, HUGE), True)
        self.assertIs(Never(-HUGE, HUGE).shows(ring, GREATER, -HUGE - 1), False)

    def test_by_least_and_most_as_they_stand_then(self):
        ring = [("a", 2), ("b", 3)]
        answer = Never(0, 2)
        self.assertIs(answer.shows(ring, 2, 3), True)
        answer.most = 3
        self.assertIs(answer.shows(ring, 2, 4), False)
        answer.most = 2
        answer.least = 1
        self.assertIs(answer.shows(ring, 2, 3), False)
        answer.least = 0
        self.assertIs(answer.shows(ring, 2, 3), True)


class WhatIsHandedIn(unittest.TestCase):
    def test_ring_and_fields_stay_as_they_were(self):
        ring = [("a", 2), ("b", 3), ("b", 1)]
        found = Found(9)
        never = Never(5, 1)
        for many in range(7):
            found.shows(ring, many, 1)
            never.shows(ring, many, 1)
        self.assertEqual(ring, [("a", 2), ("b", 3), ("b", 1)])
        self.assertEqual(vars(found), {"place": 9})
        self.assertEqual(vars(never), {"least": 5, "most": 1})

    def test_the_ring_is_not_kept(self):
        ring = [("a", 2), ("b", 3)]
        found = Found(0)
        never = Never(0, 2)
        self.assertIs(found.shows(ring, 2, 2), True)
        self.assertIs(never.shows(ring, 2, 3), True)
        ring[0] = ("b", 2)
        self.assertIs(found.shows(ring, 2, 2), False)
        self.assertIs(never.shows(ring, 2, 3), False)
        self.assertIs(found.shows(ring, 2, 0), True)


if __name__ == "__main__":
    unittest.main()
