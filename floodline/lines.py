"""Lines of hosts, and the states and frames that belong to a line."""

from floodline.basics import is_integer, is_list, is_name, is_pair, is_position
from floodline.errors import InvalidFrames, InvalidHost, InvalidLine, InvalidState
from floodline.intervals import covers

MOST_HOSTS = 40
MOST_FRAMES = 300


def is_line(value):
    """Return whether any value is a line."""
    if not isinstance(value, dict) or not 1 <= len(value) <= MOST_HOSTS:
        return False
    for host, position in value.items():
        if not is_name(host) or not is_position(position):
            return False
    return len(set(list(value.values()))) == len(value)


def is_state(line, value):
    """Return whether any value is a state of the line."""
    check_line(line)
    if not has_hosts_of(line, value):
        return False
    return all([is_known_interval(line, host, value[host]) for host in line])


def is_frames(line, value):
    """Return whether any value is a list of frames of the line."""
    check_line(line)
    if not is_list(value) or len(value) > MOST_FRAMES:
        return False
    return all([is_frame(line, item) for item in value])


def in_order(line):
    """Return the list of the hosts by ascending positions."""
    check_line(line)
    places = sorted([(position, host) for host, position in line.items()])
    return [place[1] for place in places]


def lacking(line, state):
    """Return the hosts that keep the state from being quiet, by ascending positions."""
    check_state(line, state)
    hosts = in_order(line)
    if len(hosts) == 1:
        return []
    first = line[hosts[0]]
    last = line[hosts[-1]]
    return [host for host in hosts if not covers(state[host], first, last)]


def is_quiet(line, state):
    """Return whether every possible frame would be direct."""
    return len(lacking(line, state)) == 0


def has_hosts_of(line, value):
    """Return whether any value is a dict whose keys are all hosts of the line, and no others."""
    if not isinstance(value, dict) or len(value) != len(line):
        return False
    return all([host in value for host in line])


def is_known_interval(line, host, value):
    """Return whether any value can stand for a host in a state of the line."""
    if value is None:
        return True
    if not is_pair(value):
        return False
    low, high = value
    own = line[host]
    low_fits = low is None or (is_end(line, low) and low <= own)
    high_fits = high is None or (is_end(line, high) and high >= own)
    return low_fits and high_fits


def is_end(line, value):
    """Return whether any value is the position of a host of the line."""
    # True would equal the position 1.
    return is_integer(value) and value in list(line.values())


def is_host(line, value):
    """Return whether any value is a host of the line."""
    # What is no string may have no hash, so that it cannot be looked up.
    return isinstance(value, str) and value in line


def is_frame(line, value):
    """Return whether any value is a frame of the line."""
    if not is_pair(value):
        return False
    sender, target = value
    return is_host(line, sender) and is_host(line, target) and sender != target


def check_line(line):
    """Raise InvalidLine if any value is not a line."""
    if not is_line(line):
        raise InvalidLine("not a dict of 1 to 40 hosts and their different positions")


def check_state(line, state):
    """Raise InvalidLine for the line, then InvalidState for the state."""
    if not is_state(line, state):
        raise InvalidState("not a dict of all hosts of the line and their intervals")


def check_frames(line, frames):
    """Raise InvalidLine for the line, then InvalidFrames for the frames."""
    if not is_frames(line, frames):
        raise InvalidFrames("not a list of up to 300 tuples of two different hosts")


def check_host(line, host):
    """Raise InvalidHost if any value is not a host of the line."""
    if not is_host(line, host):
        raise InvalidHost("not a host of the line")


def check_hosts(line, sender, target):
    """Raise InvalidHost if two values are not two different hosts of the line."""
    if not is_host(line, sender):
        raise InvalidHost("the sender is not a host of the line")
    if not is_host(line, target) or target == sender:
        raise InvalidHost("the target is not another host of the line")
