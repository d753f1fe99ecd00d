"""How the tests tell that something is refused."""

import unittest

from ringbeads.errors import RingError


class Refused(unittest.TestCase):
    def refused(self, kind, told, *things):
        """The call is refused by just this class, which is a RingError and a ValueError."""
        with self.assertRaises(ValueError) as caught:
            told(*things)
        self.assertIs(caught.exception.__class__, kind)
        self.assertIsInstance(caught.exception, RingError)
