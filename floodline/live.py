"""Networks: switches that frames are sent in, one after the other."""

from floodline.basics import check_number
from floodline.errors import InvalidFrames, NothingToUndo
from floodline.histories import least_history
from floodline.lines import check_hosts, check_line, is_frame
from floodline.sending import send_one, silent_state

MOST_AGE = 300


class Network:
    """Silent switches and the hosts of a line; what is sent can be reverted."""

    def __init__(self, line):
        check_line(line)
        self._line = {host: line[host] for host in sorted(line)}
        self._known = silent_state(self._line)
        self._sent = []
        # What undo needs: the number of frames and the state before each change.
        self._changes = []

    def send(self, sender, target):
        """Send a frame and return its kind."""
        check_hosts(self._line, sender, target)
        self._begin_change()
        return self._pass_on(sender, target)

    def send_all(self, *frames):
        """Send frames, as one change, and return the list of their kinds."""
        if not all([is_frame(self._line, frame) for frame in frames]):
            raise InvalidFrames("not tuples of two different hosts of the line")
        if len(frames) > 0:
            self._begin_change()
        kinds = []
        for sender, target in frames:
            kinds.append(self._pass_on(sender, target))
        return kinds

    def tried(self, *frames):
        """Return the list of the kinds that frames would have."""
        other = self.twin()
        return other.send_all(*frames)

    def undo(self):
        """Revert the last change that is not reverted."""
        if len(self._changes) == 0:
            raise NothingToUndo("no change is left")
        many, known = self._changes.pop()
        self._sent = self._sent[:many]
        self._known = known

    @property
    def known(self):
        """Return the state, as a new dict."""
        return dict(self._known)

    @property
    def frames(self):
        """Return the new list of all frames that were sent."""
        return list(self._sent)

    @property
    def line(self):
        """Return the line, as a new dict."""
        return dict(self._line)

    def twin(self):
        """Return an independent network of the same class, with the same frames and changes to undo."""
        other = self._silent_one(self._line)
        other._known = self._known
        other._sent = list(self._sent)
        other._changes = list(self._changes)
        return other

    @classmethod
    def from_record(cls, line, record):
        """Return a network in which the frames of the least history of a record were sent."""
        return send_record(cls(line), record)

    @classmethod
    def _silent_one(cls, line):
        """Return a network of this class in which nothing was sent."""
        return cls(line)

    def _begin_change(self):
        """Remember what it is like before a change."""
        self._changes.append((len(self._sent), self._known))

    def _pass_on(self, sender, target):
        """Send a frame that has been checked before, and return its kind."""
        # A new state: the old one may be part of a change, here or in a twin.
        known = self.known
        kind, _ = send_one(self._line, known, sender, target)
        self._known = known
        self._sent.append((sender, target))
        return kind

    def __len__(self):
        """Return the number of all frames that were sent."""
        return len(self._sent)

    def __eq__(self, other):
        """Return whether another value is a network of the same class with the same line and frames."""
        return type(self) is type(other) and self._line == other._line and self._sent == other._sent


class AgeingNetwork(Network):
    """A network whose switches forget each host that has sent none of the last frames."""

    def __init__(self, line, *, age=10):
        super().__init__(line)
        check_number(age, 1, MOST_AGE)
        self._age = age

    @property
    def age(self):
        """Return the number of the last frames that count."""
        return self._age

    @property
    def known(self):
        """Return the state in which the next frame would be sent, as a new dict."""
        recent = {sender: True for sender, _ in self._sent[-self._age:]}
        return {host: self._known[host] if host in recent else None for host in self._known}

    def twin(self):
        """Return an independent network of the same class and age, with the same frames and changes to undo."""
        other = super().twin()
        other._age = self._age
        return other

    @classmethod
    def from_record(cls, line, record):
        """Return a network of the default age in which the frames of the least history of a record were sent."""
        return send_record(cls(line), record)

    def __eq__(self, other):
        """Return whether another value is a network of the same class with the same line, frames and age."""
        return (type(self) is type(other) and self._line == other._line and self._sent == other._sent
                and self._age == other._age)


def send_record(network, record):
    """Send the frames of the least history of a record one by one, and return the network."""
    for host, index in least_history(network.line, record):
        network.send(host, record[host][index][0])
    return network
