"""The refusals: one class for each kind of thing that is handed in wrong."""


class RingError(ValueError):
    """Something that was handed in is refused."""


class BadRing(RingError):
    """What was handed in is no ring."""


class BadPlace(RingError):
    """What was handed in is no place of the ring."""


class BadTimes(RingError):
    """What was handed in is no whole number from 1 on."""


class BadCount(RingError):
    """What was handed in is no whole number in the limits that are told for it."""
