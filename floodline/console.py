"""A console that runs rows of words on a network."""

from floodline.errors import InvalidCommand
from floodline.frames import kind_of
from floodline.lines import check_host, is_quiet
from floodline.live import Network
from floodline.quiet import fewest_frames
from floodline.texts import format_frames, parse_line


def send_frame(network, sender, target):
    """Send a frame and return its kind."""
    return network.send(sender, target)


def kind_of_frame(network, sender, target):
    """Return the kind that a frame would have."""
    return kind_of(network.line, network.known, sender, target)


def undo_change(network):
    """Revert the last change."""
    network.undo()
    return "ok"


def known_interval(network, host):
    """Return the ends of the interval of the switches that know a host."""
    check_host(network.line, host)
    interval = network.known[host]
    if interval is None:
        return "silent"
    return " ".join(["*" if end is None else str(end) for end in interval])


def quiet_or_not(network):
    """Return whether the state is quiet."""
    return "yes" if is_quiet(network.line, network.known) else "no"


def fewest_number(network):
    """Return the least number of frames after which the state is quiet."""
    return str(fewest_frames(network.line, network.known))


def frames_text(network):
    """Return the text of the frames that were sent."""
    if len(network) == 0:
        return "-"
    return format_frames(network.line, network.frames)


LINE = "line "
ACTIONS = {"send": send_frame, "kind": kind_of_frame, "undo": undo_change, "known": known_interval,
           "quiet": quiet_or_not, "fewest": fewest_number, "frames": frames_text}
WORDS = {"send": 3, "kind": 3, "undo": 1, "known": 2, "quiet": 1, "fewest": 1, "frames": 1}


class Console:
    """A console with a network, at first none."""

    def __init__(self):
        self._network = None

    def execute(self, row):
        """Run a row and return its answer, a string."""
        if not isinstance(row, str):
            raise InvalidCommand("not a string")
        if row.startswith(LINE):
            self._network = Network(parse_line(row.removeprefix(LINE)))
            return "ok"
        words = row.split(" ")
        if not is_command(words):
            raise InvalidCommand("not a command with its words")
        if self._network is None:
            raise InvalidCommand("there is no network")
        action = ACTIONS[words[0]]
        rest = words[1:]
        return action(self._network, *rest)


def is_command(words):
    """Return whether words are those of a row, but for a row of a new line."""
    return words[0] in ACTIONS and len(words) == WORDS[words[0]] and "" not in words
