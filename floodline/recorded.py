"""Recorded frames: tuples (host, index), for records that have been checked before."""

from floodline.basics import is_integer, is_pair
from floodline.errors import InvalidFrame
from floodline.intervals import contains
from floodline.lines import is_host
from floodline.sending import reach_of_kind


def frames_in(record):
    """Return the ascending list of all recorded frames."""
    return [(host, index) for host in sorted(record) for index in range(len(record[host]))]


def reach_in(line, record, frame):
    """Return the reach of a recorded frame."""
    host, index = frame
    target, kind = record[host][index]
    return reach_of_kind(kind, line[host], line[target])


def heard_in(line, record, position):
    """Return the ascending list of the recorded frames that reach a position."""
    return [frame for frame in frames_in(record) if contains(reach_in(line, record, frame), position)]


def opening_in(line, record, host, other):
    """Return the opening frame of a host for another one, None if there is none."""
    return opening_at(line, record, host, line[other])


def opening_at(line, record, host, position):
    """Return the first recorded frame of a host that reaches a position, None if there is none."""
    for index in range(len(record[host])):
        if contains(reach_in(line, record, (host, index)), position):
            return (host, index)
    return None


def is_recorded(record, value):
    """Return whether any value is a recorded frame."""
    if not is_pair(value):
        return False
    host, index = value
    return is_host(record, host) and is_integer(index) and 0 <= index < len(record[host])


def check_frame(record, frame):
    """Raise InvalidFrame if any value is not a recorded frame."""
    if not is_recorded(record, frame):
        raise InvalidFrame("not a tuple of a host and an index of its list")


def check_two_frames(record, one, other):
    """Raise InvalidFrame if two values are not two different recorded frames."""
    check_frame(record, one)
    check_frame(record, other)
    if other == one:
        raise InvalidFrame("the two recorded frames are the same one")
