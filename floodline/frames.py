"""How far frames go, and what the switches know afterwards."""

from floodline.basics import check_position
from floodline.intervals import contains
from floodline.lines import check_frames, check_hosts, check_state
from floodline.sending import kind_in, reach_of_kind, send_each, silent_state


def kind_of(line, state, sender, target):
    """Return the kind of a frame: "all", "flood" or "direct"."""
    check_state(line, state)
    check_hosts(line, sender, target)
    return kind_in(line, state, sender, target)


def reach_of(line, state, sender, target):
    """Return the tuple (low, high) of the switches that a frame reaches."""
    kind = kind_of(line, state, sender, target)
    return reach_of_kind(kind, line[sender], line[target])


def switches_reached(line, state, sender, target):
    """Yield the positions that a frame reaches, by their distance from the sender, the left one first."""
    reach = reach_of(line, state, sender, target)
    start = line[sender]
    yield start
    distance = 1
    while contains(reach, start - distance) or contains(reach, start + distance):
        if contains(reach, start - distance):
            yield start - distance
        if contains(reach, start + distance):
            yield start + distance
        distance += 1


def kinds_of(line, frames, *, start=None):
    """Return the list of the kinds of frames that are sent one after the other."""
    check_frames(line, frames)
    sent = send_each(line, starting_state(line, start), frames)
    return [kind for kind, _ in sent]


def known_after(line, frames, *, start=None):
    """Return the state after frames that are sent one after the other."""
    check_frames(line, frames)
    known = starting_state(line, start)
    send_each(line, known, frames)
    return {host: known[host] for host in sorted(known)}


def heard_at(line, frames, position, *, start=None):
    """Return the ascending list of the indices of the frames that reach a position."""
    check_frames(line, frames)
    check_position(position)
    sent = send_each(line, starting_state(line, start), frames)
    return [index for index, (_, reach) in enumerate(sent) if contains(reach, position)]


def starting_state(line, start):
    """Return a new state to begin with, the silent one for None; raise InvalidState."""
    if start is None:
        return silent_state(line)
    check_state(line, start)
    # A copy, as sending changes the state and the argument has to stay.
    return dict(start)
