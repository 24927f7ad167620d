"""The fewest frames after which a state is quiet."""

from floodline.frames import known_after
from floodline.intervals import contains
from floodline.lines import in_order, is_frames, is_quiet, lacking


def fewest_frames(line, state):
    """Return the least number of frames after which a state is quiet."""
    return len(quiet_plan(line, state))


def quiet_plan(line, state):
    """Return a list of the fewest frames after which a state is quiet."""
    needy = lacking(line, state)
    hosts = in_order(line)
    first = hosts[0]
    last = hosts[-1]
    inner = [host for host in needy if host not in (first, last)]
    plan = inner_plan(state, {host: frames_to_ends(line, state, first, last, host) for host in inner})
    # The ends send last, as floods need an end that is not known everywhere.
    if first in needy:
        plan.append((first, last))
    if last in needy:
        plan.append((last, first))
    return plan


def is_quiet_plan(line, state, value):
    """Return whether any value is a list of the fewest frames after which a state is quiet."""
    fewest = fewest_frames(line, state)
    if not is_frames(line, value) or len(value) != fewest:
        return False
    return is_quiet(line, known_after(line, value, start=state))


def inner_plan(state, to_ends):
    """Return the fewest frames for the hosts between the ends; the dict tells which each would need to the ends."""
    silent = sorted([(len(to_ends[host]), host) for host in to_ends if state[host] is None])
    if not silent:
        return [frame for host in to_ends for frame in to_ends[host]]
    # One frame to a silent host is enough for all others, but it is silent only until it sends.
    mute = silent[0][1]
    return [(host, mute) for host in to_ends if host != mute] + to_ends[mute]


def frames_to_ends(line, state, first, last, host):
    """Return the fewest frames to the ends after which a host between them is known everywhere."""
    if contains(state[host], line[first]):
        return [(host, last)]
    if contains(state[host], line[last]):
        return [(host, first)]
    for end in (first, last):
        # Such a frame is not direct, and so it reaches both ends.
        if not contains(state[end], line[host]):
            return [(host, end)]
    return [(host, first), (host, last)]
