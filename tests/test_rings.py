"""Points 1 and 2, and the interface of ringbeads/rings.py: right inputs."""

import inspect
import unittest

from ringbeads.rings import among, beads, kind_at
from samples import GREAT, GREATER, HUGE, RINGS, bead_by_bead, small_rings


class Letter(str):
    """A string that can be told from a plain one."""


def told_of(ring, many):
    """What each function tells of a ring, from its first and its last place on."""
    last = sum(beads(ring)) - 1
    return [
        beads(ring), kind_at(ring, 0), kind_at(ring, last),
        among(ring, 0, many), among(ring, last, many),
    ]


class Interface(unittest.TestCase):
    def test_arguments(self):
        names = [list(inspect.signature(told).parameters) for told in (beads, kind_at, among)]
        self.assertEqual(names, [["ring"], ["ring", "place"], ["ring", "place", "many"]])

    def test_file_and_names(self):
        for told, name in ((beads, "beads"), (kind_at, "kind_at"), (among, "among")):
            self.assertEqual(told.__module__, "ringbeads.rings")
            self.assertEqual(told.__name__, name)

    def test_arguments_by_name(self):
        ring = [("b", 2), ("a", 3)]
        self.assertEqual(beads(ring=ring), (3, 2))
        self.assertEqual(kind_at(ring=ring, place=2), "a")
        self.assertEqual(among(ring=ring, place=1, many=3), 2)


class Beads(unittest.TestCase):
    def test_one_stretch(self):
        self.assertEqual(beads([("a", 1)]), (1, 0))
        self.assertEqual(beads([("b", 1)]), (0, 1))
        self.assertEqual(beads([("a", GREAT)]), (GREAT, 0))
        self.assertEqual(beads([("b", GREAT)]), (0, GREAT))

    def test_by_turns(self):
        self.assertEqual(beads([("a", 2), ("b", 3), ("a", 4), ("b", 5)]), (6, 8))

    def test_neighbours_alike(self):
        self.assertEqual(beads([("a", 2), ("a", 3), ("b", 4), ("b", 5)]), (5, 9))
        self.assertEqual(beads([("b", 1), ("b", 1), ("b", 1)]), (0, 3))

    def test_great_counts(self):
        ring = [("a", GREAT), ("b", GREATER), ("a", 1), ("b", HUGE)]
        self.assertEqual(beads(ring), (GREAT + 1, GREATER + HUGE))

    def test_many_stretches(self):
        self.assertEqual(beads([("a", 1), ("b", 2)] * 20000), (20000, 40000))

    def test_small_rings_bead_by_bead(self):
        for ring in small_rings():
            row = bead_by_bead(ring)
            self.assertEqual(beads(ring), (row.count("a"), row.count("b")), ring)


class KindAt(unittest.TestCase):
    def test_small_rings_bead_by_bead(self):
        for ring in small_rings():
            for place, letter in enumerate(bead_by_bead(ring)):
                self.assertEqual(kind_at(ring, place), letter, (ring, place))

    def test_first_last_and_inner_places_of_great_stretches(self):
        lengths = [GREAT, 1, GREATER, GREATER, 2, HUGE, 1]
        for letters in ("abababa", "bababab", "aabbaab", "abbbbba", "aaaaaaa", "bbbbbbb"):
            ring = list(zip(letters, lengths))
            before = 0
            for letter, length in ring:
                inner = [length // 3, length // 2, length - length // 5 - 1]
                for at in [0, length - 1, *inner]:
                    self.assertEqual(kind_at(ring, before + at), letter)
                before += length

    def test_many_stretches(self):
        ring = [("a", 1), ("b", 2)] * 20000
        self.assertEqual(kind_at(ring, 0), "a")
        self.assertEqual(kind_at(ring, 59996), "b")
        self.assertEqual(kind_at(ring, 59997), "a")
        self.assertEqual(kind_at(ring, 59999), "b")


class Among(unittest.TestCase):
    def test_small_rings_bead_by_bead(self):
        for ring in small_rings():
            row = bead_by_bead(ring)
            around = row * 4
            for place in range(len(row)):
                for many in range(3 * len(row) + 1):
                    told = around[place:place + many].count("a")
                    self.assertEqual(among(ring, place, many), told, (ring, place, many))

    def test_none_one_and_all(self):
        for ring in RINGS:
            all_a, all_b = beads(ring)
            total = all_a + all_b
            for place in (0, total // 3, total // 2, total - 1):
                self.assertEqual(among(ring, place, 0), 0)
                self.assertEqual(among(ring, place, 1), int(kind_at(ring, place) == "a"))
                self.assertEqual(among(ring, place, total), all_a)
                self.assertEqual(among(ring, place, total * HUGE), all_a * HUGE)

    def test_many_times_around_small_rings(self):
        for ring in small_rings()[:60]:
            row = bead_by_bead(ring)
            for place in range(len(row)):
                for many in range(len(row)):
                    told = (row * 2)[place:place + many].count("a") + GREAT * row.count("a")
                    self.assertEqual(among(ring, place, GREAT * len(row) + many), told)

    def test_behind_the_last_bead_comes_the_first(self):
        self.assertEqual(among([("a", 1), ("b", 4)], 4, 1), 0)
        self.assertEqual(among([("a", 1), ("b", 4)], 4, 2), 1)
        self.assertEqual(among([("b", 1), ("a", 4)], 4, 2), 1)
        self.assertEqual(among([("b", 1), ("a", 4)], 4, 3), 2)
        ring = [("a", GREAT), ("b", GREATER)]
        self.assertEqual(among(ring, GREAT + GREATER - 1, 1), 0)
        self.assertEqual(among(ring, GREAT + GREATER - 1, 2), 1)
        self.assertEqual(among(ring, GREAT + GREATER - 1, GREAT), GREAT - 1)

    def test_great_ring(self):
        ring = [("a", GREAT), ("b", GREATER), ("a", 5), ("a", HUGE), ("b", 1)]
        total = GREAT + GREATER + 5 + HUGE + 1
        self.assertEqual(among(ring, 0, GREAT - 1), GREAT - 1)
        self.assertEqual(among(ring, 0, GREAT + 1), GREAT)
        self.assertEqual(among(ring, GREAT - 1, 2), 1)
        self.assertEqual(among(ring, GREAT - 2, GREATER + 5), 5)
        self.assertEqual(among(ring, GREAT, GREATER), 0)
        self.assertEqual(among(ring, GREAT + GREATER, HUGE), HUGE)
        self.assertEqual(among(ring, total - 3, 6), 5)
        self.assertEqual(among(ring, total - 3, 6 + 7 * total), 5 + 7 * (GREAT + 5 + HUGE))
        self.assertEqual(among(ring, 1, total - 1), GREAT - 1 + 5 + HUGE)

    def test_one_kind_alone(self):
        for total in (1, 2, 7, GREAT):
            for place in (0, total // 2, total - 1):
                for many in (0, 1, total - 1, total, total + 1, 10 * total + 1, HUGE):
                    self.assertEqual(among([("a", total)], place, many), many)
                    self.assertEqual(among([("b", total)], place, many), 0)

    def test_parts_add_up(self):
        ring = [("b", GREAT), ("a", GREATER), ("b", 2), ("a", HUGE)]
        total = GREAT + GREATER + 2 + HUGE
        for place in (0, GREAT - 1, GREAT, GREAT + GREATER + 1, total - 1):
            for first in (1, GREAT, GREATER + 5, total - 1, 3 * total + 8):
                for then in (0, 1, GREATER, HUGE, total):
                    parts = among(ring, place, first) + among(ring, (place + first) % total, then)
                    self.assertEqual(among(ring, place, first + then), parts)

    def test_many_stretches(self):
        ring = [("a", 1), ("b", 2)] * 20000
        self.assertEqual(among(ring, 30000, 6), 2)
        self.assertEqual(among(ring, 59999, 60000 * GREAT + 2), 20000 * GREAT + 1)


class KindsOfWhatIsTold(unittest.TestCase):
    def test_beads_tells_a_pair_of_whole_numbers(self):
        for ring in RINGS:
            told = beads(ring)
            self.assertIs(type(told), tuple)
            self.assertEqual([type(many) for many in told], [int, int])

    def test_kind_at_tells_a_letter(self):
        for ring in RINGS:
            for place in (0, sum(beads(ring)) - 1):
                told = kind_at(ring, place)
                self.assertIs(type(told), str)
                self.assertIn(told, ("a", "b"))

    def test_kind_at_tells_a_new_letter(self):
        for letter in "ab":
            own = Letter(letter)
            told = kind_at([("a", 1), (own, 2), ("b", 1)], 2)
            self.assertEqual(told, letter)
            self.assertIs(type(told), str)

    def test_among_tells_a_whole_number(self):
        for ring in RINGS:
            for many in (0, 1, 2, GREAT):
                self.assertIs(type(among(ring, 0, many)), int)


class WhatIsHandedIn(unittest.TestCase):
    def test_the_ring_stays_as_it_was(self):
        for ring in RINGS:
            as_it_was = list(ring)
            told_of(ring, 3 * GREAT)
            self.assertIs(type(ring), list)
            self.assertEqual(len(ring), len(as_it_was))
            for stretch, was in zip(ring, as_it_was):
                self.assertIs(stretch, was)

    def test_the_ring_is_not_kept(self):
        ring = [("a", 2), ("b", 3)]
        self.assertEqual(told_of(ring, 3), [(2, 3), "a", "b", 2, 2])
        ring[0] = ("b", 4)
        self.assertEqual(told_of(ring, 3), [(0, 7), "b", "b", 0, 0])
        ring.append(("a", 1))
        self.assertEqual(told_of(ring, 3), [(1, 7), "b", "a", 0, 1])
        del ring[:2]
        self.assertEqual(told_of(ring, 3), [(1, 0), "a", "a", 3, 3])

    def test_the_same_is_told_again(self):
        for ring in RINGS:
            self.assertEqual(told_of(ring, GREAT), told_of(list(ring), GREAT))
            self.assertEqual(told_of(ring, GREAT), told_of(ring, GREAT))


if __name__ == "__main__":
    unittest.main()
