"""What frames do to a state, for arguments that have been checked before."""

from floodline.intervals import contains, joined

ALL = "all"
FLOOD = "flood"
DIRECT = "direct"


def silent_state(line):
    """Return the state in which all hosts are silent."""
    return {host: None for host in line}


def kind_in(line, state, sender, target):
    """Return the kind of a frame that is sent in a state."""
    if state[target] is None:
        return ALL
    if contains(state[target], line[sender]):
        return DIRECT
    return FLOOD


def reach_of_kind(kind, start, end):
    """Return the reach of a frame of a kind from one position to another."""
    if kind == ALL:
        return (None, None)
    if kind == DIRECT:
        return (min(start, end), max(start, end))
    if start < end:
        return (None, end)
    return (end, None)


def send_one(line, known, sender, target):
    """Send a frame, so that the state changes, and return the tuple of its kind and its reach."""
    kind = kind_in(line, known, sender, target)
    reach = reach_of_kind(kind, line[sender], line[target])
    known[sender] = joined(known[sender], reach)
    return (kind, reach)


def send_each(line, known, frames):
    """Send frames one after the other, and return the list of their kinds and reaches."""
    sent = []
    for sender, target in frames:
        sent.append(send_one(line, known, sender, target))
    return sent
