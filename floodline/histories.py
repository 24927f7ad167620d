"""Histories: the orders in which the frames of a record can have been sent."""

from floodline.basics import check_number, is_list
from floodline.errors import Contradiction, TooMany
from floodline.faults import fault_of_least_frame, first_fault
from floodline.needs import needs_in
from floodline.orders import all_after, all_before, count_stages, least_order, nth_order, ways_in
from floodline.recorded import check_frame, check_two_frames, frames_in, is_recorded
from floodline.records import check_ports, check_record

MOST_STAGES = 3000


def is_history(line, record, value, *, ports=None):
    """Return whether any value is a history of the record."""
    check_ports(line, record, ports)
    if not is_list(value) or not all([is_recorded(record, item) for item in value]):
        return False
    if sorted(value) != frames_in(record) or fault_of_least_frame(line, record) is not None:
        return False
    places = {frame: at for at, frame in enumerate(value)}
    return all([places[first] < places[second] for first, second in needs_in(line, record, ports)])


def least_history(line, record, *, ports=None):
    """Return the least history, as lists are compared."""
    needs = needs_of_possible(line, record, ports)
    return least_order(record, needs)


def surely_before(line, record, one, other, *, ports=None):
    """Return whether one frame stands before another one in every history."""
    check_record(line, record)
    check_two_frames(record, one, other)
    needs = needs_of_possible(line, record, ports)
    return one in all_before(record, needs, other)


def places_of(line, record, frame, *, ports=None):
    """Return the tuple of the least and the greatest index that a frame has in the histories."""
    check_record(line, record)
    check_frame(record, frame)
    needs = needs_of_possible(line, record, ports)
    earlier = all_before(record, needs, frame)
    later = all_after(record, needs, frame)
    return (len(earlier), len(frames_in(record)) - 1 - len(later))


def reversed_history(line, record, one, other, *, ports=None):
    """Return a history in which one frame stands behind another one, None if there is none."""
    if surely_before(line, record, one, other, ports=ports):
        return None
    needs = needs_in(line, record, ports)
    return least_order(record, needs + [(other, one)])


def count_histories(line, record, *, ports=None):
    """Return the number of histories."""
    needs = needs_of_possible(line, record, ports)
    check_stages(record)
    return ways_in(record, needs)[0]


def nth_history(line, record, number, *, ports=None):
    """Return the history with an index in ascending order."""
    many = count_histories(line, record, ports=ports)
    check_number(number, 0, many - 1)
    return nth_order(record, needs_in(line, record, ports), number)


def needs_of_possible(line, record, ports):
    """Return the needs; raise the errors of the parameters, then Contradiction if the record is not possible."""
    check_ports(line, record, ports)
    fault = first_fault(line, record, ports)
    if fault is not None:
        raise Contradiction(fault)
    return needs_in(line, record, ports)


def check_stages(record):
    """Raise TooMany if the record has too many stages to count its histories."""
    many = count_stages(record)
    if many > MOST_STAGES:
        raise TooMany(many)
