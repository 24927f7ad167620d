"""Intervals of switches: tuples (low, high), None for an end that is not limited."""


def contains(interval, position):
    """Return whether an interval contains a position; None stands for no switches."""
    if interval is None:
        return False
    low, high = interval
    return (low is None or low <= position) and (high is None or position <= high)


def covers(interval, first, last):
    """Return whether an interval contains two positions, and so all between them."""
    return contains(interval, first) and contains(interval, last)


def joined(interval, other):
    """Return the least interval that contains two; None stands for no switches."""
    if interval is None:
        return other
    low = None
    if interval[0] is not None and other[0] is not None:
        low = min(interval[0], other[0])
    high = None
    if interval[1] is not None and other[1] is not None:
        high = max(interval[1], other[1])
    return (low, high)
