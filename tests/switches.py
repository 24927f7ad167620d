"""Switches that pass frames on one by one, as point [6] says; nothing here uses the package."""


class Switches:
    """The switches around a line, each with the directions that it has learnt; all are silent at first."""

    def __init__(self, line, margin=4):
        self.line = line
        self.positions = range(min(line.values()) - margin, max(line.values()) + margin + 1)
        self.learnt = {at: {} for at in self.positions}

    def send(self, sender, target):
        """Send a frame and return the list of the positions that it reaches, as far as they are shown."""
        reached = []
        waiting = [(self.line[sender], None)]
        while waiting:
            at, origin = waiting.pop()
            if at in self.positions:
                reached.append(at)
                waiting.extend([(to, at) for to in self.ways(at, target) if to != origin])
                self.learnt[at].setdefault(sender, 0 if origin is None else origin - at)
        return sorted(reached)

    def ways(self, at, target):
        """Return the positions to which a switch passes a frame on."""
        if target not in self.learnt[at]:
            return [at - 1, at + 1]
        towards = self.learnt[at][target]
        return [at + towards] if towards else []

    def knowing(self, host):
        """Return the positions of the switches that know a host."""
        return [at for at in self.positions if host in self.learnt[at]]

    def forget(self, host):
        """Make a host silent again."""
        for learnt in self.learnt.values():
            learnt.pop(host, None)
