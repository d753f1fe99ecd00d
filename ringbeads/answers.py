"""Answers: what can be told of any many beads with any many of the kind a."""

from ringbeads.rings import inside, is_place
from ringbeads.spans import least_and_most


class Answer:
    """What is told of a ring, a count of beads and a number: Found or Never."""


class Found(Answer):
    """From this place on so many beads have just so many of the kind a."""

    def __init__(self, place):
        self.place = place

    def shows(self, ring, many, number):
        """Tell whether it is so, by the place as it stands now."""
        return is_place(ring, self.place) and inside(ring, self.place, many) == number


class Never(Answer):
    """So many beads have from no place on just so many of the kind a, but fewer or more."""

    def __init__(self, least, most):
        self.least = least
        self.most = most

    def shows(self, ring, many, number):
        """Tell whether it is so, by the least and the most as they stand now."""
        least, most = least_and_most(ring, many)
        if self.least != least or self.most != most:
            return False
        return number < least or number > most
