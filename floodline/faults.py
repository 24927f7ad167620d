"""Faults: what shows that a record is not possible."""

from floodline.basics import is_list
from floodline.logs import logs_in
from floodline.needs import needs_in
from floodline.orders import ring_in
from floodline.recorded import frames_in, is_recorded, opening_in
from floodline.sending import DIRECT, FLOOD

SILENT = "silent"
UNKNOWN = "unknown"
RING = "ring"


def fault_of_frame(line, record, frame):
    """Return the fault of a frame that cannot have been sent, None if it is none."""
    host, index = frame
    target, kind = record[host][index]
    if kind == FLOOD and len(record[target]) == 0:
        return (SILENT, frame)
    if kind == DIRECT and opening_in(line, record, target, host) is None:
        return (UNKNOWN, frame)
    return None


def fault_of_least_frame(line, record):
    """Return the fault of the least frame that cannot have been sent, None if there is none."""
    for frame in frames_in(record):
        fault = fault_of_frame(line, record, frame)
        if fault is not None:
            return fault
    return None


def first_fault(line, record, ports):
    """Return a fault, None if the record is possible; the arguments have been checked before."""
    fault = fault_of_least_frame(line, record)
    if fault is not None:
        return fault
    ring = ring_in(record, needs_in(line, record, ports))
    if ring is not None:
        return (RING, ring)
    return None


def is_ring(line, record, ports, value):
    """Return whether any value is a list of frames each of which must be sent before the next one, in a circle."""
    if not is_list(value) or len(value) < 2 or not all([is_recorded(record, item) for item in value]):
        return False
    if len(set(value)) < len(value):
        return False
    needs = {need: True for need in needs_in(line, record, ports)}
    logs = logs_in(ports)
    # The index -1 makes the last frame come before the first one.
    return all([goes_before(needs, logs, value[at - 1], value[at]) for at in range(len(value))])


def goes_before(needs, logs, one, other):
    """Return whether a frame stands before another one by a need, in the list of a host or in a log."""
    if (one, other) in needs or (one[0] == other[0] and one[1] < other[1]):
        return True
    return any([one in log and other in log and log.index(one) < log.index(other) for log in logs])
