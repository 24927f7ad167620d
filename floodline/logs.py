"""Logs: what listeners at positions have heard, in order."""

from floodline.basics import is_list, is_position
from floodline.recorded import heard_in, is_recorded

MOST_PORTS = 12


def is_ports(line, record, value):
    """Return whether any value is None or ports of a record, which has been checked before."""
    if value is None:
        return True
    if not isinstance(value, dict) or len(value) > MOST_PORTS:
        return False
    for position, log in value.items():
        if not is_position(position) or not is_log(line, record, position, log):
            return False
    return True


def is_log(line, record, position, value):
    """Return whether any value is a log of a listener at a position."""
    if not is_list(value) or not all([is_recorded(record, item) for item in value]):
        return False
    # Frames of one host keep their order here, so that a wrong order of theirs shows.
    by_hosts = sorted(value, key=lambda frame: frame[0])
    return by_hosts == heard_in(line, record, position)


def logs_in(ports):
    """Return the list of the logs of ports, by ascending positions."""
    if ports is None:
        return []
    return [ports[position] for position in sorted(ports)]
