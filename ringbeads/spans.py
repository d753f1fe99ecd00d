"""Spans: how the number of the kind a among so many beads goes from place to place."""

from ringbeads.rings import KIND_A, from_first, size


def spans(ring, many):
    """Tell how many of the kind a so many beads have from each place on, by spans of places.

    Each span is told as its first place, how many of the kind a so many beads
    have from there on, by how many more with each further place (1, 0 or -1),
    and how many places it has. The spans cover all places, in their order.
    """
    # With each step on, one bead falls out behind and another one comes in
    # ahead: while both stay in their stretches, each step changes the same.
    behind = ends(ring)
    ahead = ends(turned(ring, many % size(ring)))
    at_behind = at_ahead = 0
    place = 0
    found = from_first(ring, many)
    told = []
    while at_behind < len(behind):
        lost, behind_end = behind[at_behind]
        won, ahead_end = ahead[at_ahead]
        end = min(behind_end, ahead_end)
        told.append((place, found, won - lost, end - place))
        found = found + (won - lost) * (end - place)
        place = end
        if behind_end == end:
            at_behind += 1
        if ahead_end == end:
            at_ahead += 1
    return told


def least_and_most(ring, many):
    """Tell the least and the most of the kind a that so many beads have from any place on."""
    # Behind the last span comes the first again, so no span ends beyond all beginnings.
    beginnings = [found for _, found, _, _ in spans(ring, many)]
    return min(beginnings), max(beginnings)


def turned(ring, place):
    """Tell the stretches as they follow one another from a place on, all around."""
    before = []
    after = []
    left = place
    for kind, length in ring:
        here = min(left, length)
        if here > 0:
            before.append((kind, here))
        if here < length:
            after.append((kind, length - here))
        left -= here
    return after + before


def ends(stretches):
    """Tell of each stretch how many of the kind a each bead counts for, and where it ends."""
    told = []
    end = 0
    for kind, length in stretches:
        end = end + length
        told.append((1 if kind == KIND_A else 0, end))
    return told
