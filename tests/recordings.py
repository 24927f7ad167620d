"""Records, ports and their histories for the tests, found by trying rather than by needs."""

import itertools
import random

from floodline.frames import heard_at, kinds_of
from tests.samples import FAR, ODD_VALUES, Pair, Row, random_frames, random_line

# The record of F on N, point [15], and the record of the examples of histories.
R = {"a": [("b", "all")], "b": [("a", "direct"), ("c", "direct")], "c": [("b", "flood")]}
H = {"a": [("b", "all"), ("c", "all")], "b": [("a", "direct")], "c": []}
EMPTY = {"a": [], "b": [], "c": []}

# Two hosts that each must have heard the other one first.
PAIR = {"a": 0, "b": 5}
RING = {"a": [("b", "direct")], "b": [("a", "direct")]}

F_ORDER = [("a", 0), ("b", 0), ("c", 0), ("b", 1)]
KINDS = ["all", "flood", "direct"]


def order_of(frames):
    """Return frames in the order in which they were sent, each by its host and its index there."""
    order = []
    for at, (sender, _) in enumerate(frames):
        order.append((sender, [other for other, _ in frames[:at]].count(sender)))
    return order


def record_by_hand(line, frames):
    """Return the record of frames, built from their kinds."""
    kinds = kinds_of(line, frames)
    return {host: [(target, kind) for (sender, target), kind in zip(frames, kinds) if sender == host]
            for host in line}


def log_of(line, frames, position):
    """Return the log of a listener to frames that are sent on silent switches."""
    order = order_of(frames)
    return [order[at] for at in heard_at(line, frames, position)]


def recorded(record):
    """Return all recorded frames, in ascending order."""
    return sorted((host, index) for host, items in record.items() for index in range(len(items)))


def reach_by_hand(line, record, frame):
    host, index = frame
    target, kind = record[host][index]
    if kind == "all":
        return (None, None)
    if kind == "direct":
        return tuple(sorted([line[host], line[target]]))
    return (line[target], None) if line[target] < line[host] else (None, line[target])


def reaches(line, record, frame, position):
    low, high = reach_by_hand(line, record, frame)
    return (low is None or low <= position) and (high is None or position <= high)


def sent_frames(record, order):
    """Return the frames (sender, target) of recorded frames in an order."""
    return [(host, record[host][index][0]) for host, index in order]


def keeps_lists(order):
    """Return whether the frames of each host stand in the order of its list."""
    return all(order_of(order)[at] == frame for at, frame in enumerate(order))


def is_history_by_hand(line, record, ports, order):
    """Return whether an order of all recorded frames is a history, by sending it."""
    if not keeps_lists(order):
        return False
    kinds = [record[host][index][1] for host, index in order]
    if kinds_of(line, sent_frames(record, order)) != kinds:
        return False
    return all([frame for frame in order if frame in log] == log for log in (ports or {}).values())


def tried_histories(line, record, ports=None):
    """Return all histories, in ascending order, by trying all orders."""
    orders = map(list, itertools.permutations(recorded(record)))
    return [order for order in orders if is_history_by_hand(line, record, ports, order)]


def random_log(chance, line, record, position):
    """Return any log of a listener, in an order that need not be possible."""
    left = {host: [frame for frame in recorded(record) if frame[0] == host and reaches(line, record, frame, position)]
            for host in record}
    log = []
    while any(left.values()):
        log.append(left[chance.choice(sorted(host for host in left if left[host]))].pop(0))
    return log


def positions_near(chance, line, many):
    return chance.sample(range(min(line.values()) - 2, max(line.values()) + 3), many)


def possible_cases(many, most=6, seed=1):
    """Return tuples of a line, frames, their record, and ports with logs of these frames."""
    chance = random.Random(seed)
    found = []
    for _ in range(many):
        line = random_line(chance, chance.randint(2, 5))
        frames = random_frames(chance, line, chance.randint(0, most))
        places = positions_near(chance, line, chance.randint(0, 3))
        ports = {position: log_of(line, frames, position) for position in places}
        found.append((line, frames, record_by_hand(line, frames), ports))
    return found


def any_cases(many, most=5, seed=1):
    """Return tuples of a line, a record and ports, which need not be possible."""
    chance = random.Random(seed)
    found = []
    for line, frames, record, _ in possible_cases(many, most, seed + 1000):
        for _ in range(chance.randint(0, 2)):
            host = chance.choice(sorted(line))
            for index in range(len(record[host])):
                if chance.random() < 0.5:
                    record[host][index] = (record[host][index][0], chance.choice(KINDS))
        places = positions_near(chance, line, chance.randint(0, 3))
        found.append((line, record, {position: random_log(chance, line, record, position) for position in places}))
    return found


def long_case(many=200, hosts=40, seed=2):
    """Return a line, so many frames, their record and ports of 12 listeners."""
    chance = random.Random(seed)
    line = random_line(chance, hosts)
    frames = random_frames(chance, line, many)
    ports = {position: log_of(line, frames, position) for position in positions_near(chance, line, 12)}
    return line, frames, record_by_hand(line, frames), ports


def needs_by_hand(line, record, ports=None):
    """Return the needs that the words of point [12] and [13] give."""
    found = set()
    for frame in recorded(record):
        host, index = frame
        target, kind = record[host][index]
        theirs = [other for other in recorded(record) if other[0] == target]
        opening = [other for other in theirs if reaches(line, record, other, line[host])][:1]
        if index + 1 < len(record[host]):
            found.add((frame, (host, index + 1)))
        if kind == "all":
            found.update((frame, other) for other in theirs[:1])
        elif kind == "flood":
            found.update((other, frame) for other in theirs[:1])
            found.update((frame, other) for other in opening)
        else:
            found.update((other, frame) for other in opening)
    for log in (ports or {}).values():
        found.update(zip(log, log[1:]))
    return sorted(found)


def lone_faults(line, record):
    """Return the faults of single frames, those of the least frames first."""
    found = []
    for frame in recorded(record):
        target, kind = record[frame[0]][frame[1]]
        theirs = [other for other in recorded(record) if other[0] == target]
        if kind == "flood" and not theirs:
            found.append(("silent", frame))
        if kind == "direct" and not any(reaches(line, record, other, line[frame[0]]) for other in theirs):
            found.append(("unknown", frame))
    return found


def is_ring_by_hand(line, record, ports, frames):
    """Return whether different recorded frames are a ring: by needs, and by their order in lists and logs."""
    needs = needs_by_hand(line, record, ports)
    logs = list((ports or {}).values())
    for one, other in zip(frames, frames[1:] + frames[:1]):
        in_list = one[0] == other[0] and one[1] < other[1]
        in_log = any(other in log[log.index(one):] for log in logs if one in log)
        if (one, other) not in needs and not in_list and not in_log:
            return False
    return len(frames) > 1


# What is no record of N, of another kind or with something wrong in it.
NO_RECORDS = ODD_VALUES + [
    {"a": [], "b": []}, {**EMPTY, "d": []}, {"a": [], "b": [], "d": []}, {**EMPTY, 1: []}, {**EMPTY, None: []},
    {**EMPTY, "a": ()}, {**EMPTY, "a": (("b", "all"),)}, {**EMPTY, "b": None}, {**EMPTY, "c": {}},
    {**EMPTY, "c": "all"}, {**EMPTY, "a": Row([("b", "all")])}, {**EMPTY, "c": ("b", "all")}, list(EMPTY),
    {**EMPTY, "a": {("b", "all")}}, {**EMPTY, "a": [("b", "all")] * 201}] + [
    {**EMPTY, "a": [("b", "all"), item]} for item in [
        ["b", "all"], Pair(("b", "all")), ("d", "all"), ("a", "all"), ("", "all"), ("B", "all"), (None, "all"),
        (["b"], "all"), ({}, "all"), (1, "all"), ("b", "ALL"), ("b", ""), ("b", "silent"), ("b", None), ("b", ["all"]),
        ("b", {}), ("b", b"all"), ("b", True), ("b",), (), ("b", "all", "all"), ("b", "all", 0), ("a", "b", "all"),
        ("all", "b"), "b", None, 0, {"b": "all"}, {"b", "all"}, ("b", "all "), ("b", "direct\n")]]

# No recorded frame of R.
NO_FRAMES_OF_R = [value for value in ODD_VALUES] + [
    ("a", 1), ("a", -1), ("b", 2), ("c", 1), ("d", 0), ("A", 0), ("", 0), ("a", None), ("a", "0"), ("a", True),
    ("a", False), ("a", (0,)), ("a", FAR), ("a", -FAR), ["a", 0], Pair(("a", 0)), ("a",), ("a", 0, 0), (0, "a"),
    (["a"], 0), ({}, 0), (None, 0), (0, 0), (("a", 0), ("b", 0)), ("b", b"0"), "a0"]

# What is neither None nor ports of R.
LOG = [("a", 0), ("b", 0)]
NO_PORTS_OF_R = [value for value in ODD_VALUES if value is not None and value != {}] + [
    [LOG], {0: None}, {0: tuple(LOG)}, {0: Row(LOG)}, {0: {}}, {0: "ab"}, {0: []}, {0: LOG[:1]}, {0: LOG[1:]},
    {0: LOG + LOG[1:]}, {0: LOG[:1] + LOG}, {0: LOG + [("b", 1)]}, {0: LOG + [("c", 0)]}, {0: LOG + [None]},
    {0: [["a", 0], ("b", 0)]}, {0: [("a", 0), Pair(("b", 0))]}, {0: [("a", False), ("b", False)]}, {0: [("a", 0), "b"]},
    {0: [("a", 0), ("b", 2)]}, {0: [("a", 0), ("d", 0)]}, {0: [("a", 0), ("b", -1)]}, {0: [("a", 0), ("b", 0, 0)]},
    {0: [("a", 0), ([], 0)]}, {0: [("a", 0), ("b", [])]}, {0: ["a", 0]}, {0: [LOG]}, {0: LOG, 1: LOG[:1]},
    {0: LOG, 5: LOG}, {5: [("b", 1), ("b", 0), ("a", 0), ("c", 0)]}, {5: [("a", 0), ("b", 1), ("c", 0), ("b", 0)]},
    {True: LOG}, {False: LOG}, {None: LOG}, {"0": LOG}, {b"0": LOG}, {(0,): LOG}, {FAR + 1: [("a", 0), ("c", 0)]},
    {-FAR - 1: [("a", 0)]}, {10 ** 39: [("a", 0), ("c", 0)]}, {at: LOG for at in range(-8, 5)},
    {at: [("a", 0)] for at in range(-13, 0)}]
