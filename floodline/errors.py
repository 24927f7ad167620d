"""The errors of the package."""


class FloodError(ValueError):
    """The base class of all errors of the package."""


class InvalidLine(FloodError):
    """A value is not a line."""


class InvalidState(FloodError):
    """A value is not a state of the line."""


class InvalidFrames(FloodError):
    """A value is not a list of frames of the line."""


class InvalidRecord(FloodError):
    """A value is not a record of the line."""


class InvalidPorts(FloodError):
    """A value is not ports of the record."""


class InvalidHost(FloodError):
    """A value is not a host that may stand there."""


class InvalidPosition(FloodError):
    """A value is not a position."""


class InvalidFrame(FloodError):
    """A value is not a recorded frame that may stand there."""


class InvalidNumber(FloodError):
    """A value is not a number that may stand there."""


class InvalidHistory(FloodError):
    """A value is not a history of the record."""


class InvalidCommand(FloodError):
    """A value is not a row that the console can run."""


class NothingToUndo(FloodError):
    """No change is left that could be reverted."""


class Contradiction(FloodError):
    """A record is not possible; the reason is one of its faults."""

    def __init__(self, reason):
        self.reason = reason


class TooMany(FloodError):
    """There are too many histories to count; the count is what was too large."""

    def __init__(self, count):
        self.count = count


class InvalidText(FloodError):
    """A value is not the text asked for; the index is that of the first wrong word, or None."""

    def __init__(self, index):
        self.index = index
