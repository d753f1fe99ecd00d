"""The interface of ringbeads/errors.py."""

import unittest

from ringbeads.errors import BadCount, BadPlace, BadRing, BadTimes, RingError


class Errors(unittest.TestCase):
    def test_ring_error_is_a_value_error(self):
        self.assertEqual(RingError.__bases__, (ValueError,))

    def test_the_others_stand_straight_under_it(self):
        for kind in (BadRing, BadPlace, BadTimes, BadCount):
            self.assertEqual(kind.__bases__, (RingError,))

    def test_names_and_file(self):
        kinds = (RingError, BadRing, BadPlace, BadTimes, BadCount)
        names = [kind.__name__ for kind in kinds]
        self.assertEqual(names, ["RingError", "BadRing", "BadPlace", "BadTimes", "BadCount"])
        for kind in kinds:
            self.assertEqual(kind.__module__, "ringbeads.errors")

    def test_caught_by_each_class_above_and_by_no_other(self):
        for kind in (BadRing, BadPlace, BadTimes, BadCount):
            for above in (kind, RingError, ValueError):
                with self.assertRaises(above):
                    raise kind("refused")
            for other in (BadRing, BadPlace, BadTimes, BadCount):
                self.assertEqual(issubclass(kind, other), kind is other)


if __name__ == "__main__":
    unittest.main()
