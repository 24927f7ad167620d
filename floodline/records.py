"""Records: which frames each host has sent, for each host on its own."""

from floodline.basics import is_list, is_pair
from floodline.errors import InvalidFrames, InvalidPorts, InvalidRecord
from floodline.faults import RING, fault_of_frame, first_fault, is_ring
from floodline.frames import kinds_of
from floodline.lines import check_frames, check_line, has_hosts_of, is_frame
from floodline.logs import is_ports
from floodline.needs import needs_in
from floodline.recorded import is_recorded
from floodline.sending import ALL, DIRECT, FLOOD

MOST_RECORDED = 200


def is_record(line, value):
    """Return whether any value is a record of the line."""
    check_line(line)
    if not has_hosts_of(line, value):
        return False
    if not all([is_list_of(line, host, value[host]) for host in line]):
        return False
    return sum([len(value[host]) for host in line]) <= MOST_RECORDED


def record_of(line, frames):
    """Return the record of frames that are sent on silent switches."""
    check_frames(line, frames)
    if len(frames) > MOST_RECORDED:
        raise InvalidFrames("more than the 200 frames of a record")
    record = {host: [] for host in sorted(line)}
    for (sender, target), kind in zip(frames, kinds_of(line, frames)):
        record[sender].append((target, kind))
    return record


def needs_of(line, record, *, ports=None):
    """Return the ascending list of the needs, without duplicates."""
    check_ports(line, record, ports)
    return needs_in(line, record, ports)


def fault_in(line, record, *, ports=None):
    """Return None if the record is possible, otherwise a fault."""
    check_ports(line, record, ports)
    return first_fault(line, record, ports)


def shows_fault(line, record, value, *, ports=None):
    """Return whether any value is a fault, also if there are others."""
    check_ports(line, record, ports)
    if not is_pair(value):
        return False
    word, shown = value
    if word == RING:
        return is_ring(line, record, ports, shown)
    return is_recorded(record, shown) and fault_of_frame(line, record, shown) == value


def is_list_of(line, host, value):
    """Return whether any value can stand for a host in a record."""
    return is_list(value) and all([is_item_of(line, host, item) for item in value])


def is_item_of(line, host, value):
    """Return whether any value is a tuple of a target of the host and a kind."""
    if not is_pair(value):
        return False
    target, kind = value
    return is_frame(line, (host, target)) and kind in (ALL, FLOOD, DIRECT)


def check_record(line, record):
    """Raise InvalidLine for the line, then InvalidRecord for the record."""
    if not is_record(line, record):
        raise InvalidRecord("not a dict of all hosts of the line and the lists of what they have sent")


def check_ports(line, record, ports):
    """Raise InvalidLine for the line, InvalidRecord for the record, then InvalidPorts for the ports."""
    check_record(line, record)
    if not is_ports(line, record, ports):
        raise InvalidPorts("not a dict of up to 12 positions and their logs")
