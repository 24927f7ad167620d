"""What a listener at a position hears, and what the switch there knew."""

from floodline.basics import check_position
from floodline.errors import InvalidFrame, InvalidHistory
from floodline.histories import is_history, needs_of_possible
from floodline.lines import check_host
from floodline.orders import all_before
from floodline.recorded import check_frame, heard_in, opening_at
from floodline.records import check_record

SURELY = "surely"
POSSIBLY = "possibly"
NEVER = "never"


def heard_by(line, record, position):
    """Return the ascending list of the recorded frames that reach a position."""
    check_record(line, record)
    check_position(position)
    return heard_in(line, record, position)


def log_at(line, record, history, position):
    """Return the log of a listener at a position in a history."""
    check_history(line, record, history)
    heard = heard_by(line, record, position)
    return [frame for frame in history if frame in heard]


def knew(line, record, position, frame, host, *, ports=None):
    """Return whether the switch at a position knows a host when it gets a frame: "surely", "possibly" or "never"."""
    check_heard(line, record, position, frame)
    check_host(line, host)
    needs = needs_of_possible(line, record, ports)
    # From the first frame of the host that reaches the switch on, the switch knows the host.
    opening = opening_at(line, record, host, position)
    if opening is None or opening == frame or frame in all_before(record, needs, opening):
        return NEVER
    if opening in all_before(record, needs, frame):
        return SURELY
    return POSSIBLY


def check_history(line, record, history):
    """Raise InvalidLine for the line, InvalidRecord for the record, then InvalidHistory for the history."""
    if not is_history(line, record, history):
        raise InvalidHistory("not a list of all recorded frames in an order in which they can have been sent")


def check_heard(line, record, position, frame):
    """Raise the errors of the line, the record and the position, then InvalidFrame if the frame is not heard there."""
    heard = heard_by(line, record, position)
    check_frame(record, frame)
    if frame not in heard:
        raise InvalidFrame("the recorded frame does not reach the position")
