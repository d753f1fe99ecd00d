"""Starts: the places from which on the kind a is always more than so many times ahead."""

from ringbeads.errors import BadCount, BadTimes
from ringbeads.rings import KIND_A, KIND_B, check_place, check_ring, is_whole, many_of


def starts(ring, times):
    """Tell how many starts there are."""
    check_ring(ring)
    check_times(times)
    return surplus(ring, times)


def start_at(ring, times, number):
    """Tell which place is the start of a number, counted from 0."""
    check_ring(ring)
    check_times(times)
    check_number(number, surplus(ring, times))
    runs = runs_of_starts(ring, times)
    at = 0
    left = number
    while left >= runs[at][1]:
        left -= runs[at][1]
        at += 1
    return runs[at][0] + left


def is_start(ring, times, place):
    """Tell whether a place is a start."""
    check_ring(ring)
    check_times(times)
    check_place(ring, place)
    return any([0 <= place - first < many for first, many in runs_of_starts(ring, times)])


def surplus(ring, times):
    """Tell by how many the kind a is more than so many times the kind b: 0 if it is not."""
    return max(0, many_of(ring, KIND_A) - times * many_of(ring, KIND_B))


def runs_of_starts(ring, times):
    """Tell the starts, rising, by pairs: the first of a run of places, and how many it has."""
    # Each bead of the kind a leads up by one, each other one down by so many
    # times one. A start is a place below all that follow it: in a stretch of
    # the kind a, which leads up, those of its first places that lie below
    # the lowest one behind the stretch.
    beginnings, rise = heights(ring, times)
    # Behind the last bead the ring goes on as from the first, by all its rise higher.
    lowest = rise + min([height for _, height in beginnings])
    runs = []
    for at in reversed(range(len(beginnings))):
        first, height = beginnings[at]
        if height < lowest:
            runs.append((first, lowest - height))
        lowest = min(lowest, height)
    runs.reverse()
    return runs


def heights(ring, times):
    """Tell the place and the height where each stretch begins, and the height behind the last."""
    place = height = 0
    beginnings = []
    for kind, length in ring:
        beginnings.append((place, height))
        place = place + length
        height = height + (length if kind == KIND_A else -times * length)
    return beginnings, height


def check_times(times):
    """Refuse what is no whole number from 1 on."""
    if not is_whole(times) or times < 1:
        raise BadTimes("a number of times is a whole number from 1 on")


def check_number(number, many):
    """Refuse what is no number of one of so many starts."""
    if not is_whole(number) or number < 0 or number >= many:
        raise BadCount("a start's number is a whole number from 0 to one less than there are")
