"""Finding: from where on so many beads have just so many of the kind a, if from anywhere."""

from ringbeads.answers import Found, Never
from ringbeads.errors import BadCount
from ringbeads.rings import check_ring, is_whole, size
from ringbeads.spans import least_and_most, spans


def sought(ring, many, number):
    """Tell a place from which on it is so, or the least and the most there are."""
    check_ring(ring)
    check_asked(ring, many, number)
    for place, found, change, length in spans(ring, many):
        steps = (number - found) * change
        if 0 <= steps < length and found + steps * change == number:
            return Found(place + steps)
    least, most = least_and_most(ring, many)
    return Never(least, most)


def check_asked(ring, many, number):
    """Refuse what is no count of beads of a ring, or no whole number."""
    if not is_whole(many) or many < 0 or many > size(ring):
        raise BadCount("a count of beads is a whole number from 0 to as many as there are")
    if not is_whole(number):
        raise BadCount("a number of beads of the kind a is a whole number")
