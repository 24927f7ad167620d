"""Needs: pairs of recorded frames, the first of which must be sent before the second."""

from floodline.logs import logs_in
from floodline.recorded import frames_in, opening_in
from floodline.sending import ALL, FLOOD


def needs_in(line, record, ports):
    """Return the ascending list of all needs, without duplicates; the arguments have been checked before."""
    found = []
    for frame in frames_in(record):
        found.extend(needs_of_frame(line, record, frame))
    for host in record:
        found.extend(neighbours([(host, index) for index in range(len(record[host]))]))
    for log in logs_in(ports):
        found.extend(neighbours(log))
    return sorted(set(found))


def needs_of_frame(line, record, frame):
    """Return the needs between a frame and those of its target."""
    host, index = frame
    target, kind = record[host][index]
    first = None
    if record[target]:
        first = (target, 0)
    opening = opening_in(line, record, target, host)
    if kind == ALL:
        pairs = [(frame, first)]
    elif kind == FLOOD:
        pairs = [(first, frame), (frame, opening)]
    else:
        pairs = [(opening, frame)]
    return [pair for pair in pairs if None not in pair]


def neighbours(frames):
    """Return the pairs of a frame and the next one in a list."""
    return [(frames[at], frames[at + 1]) for at in range(len(frames) - 1)]
