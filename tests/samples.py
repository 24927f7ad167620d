"""Values that several tests use, and small checks over them."""

import copy
import random

# The line and the frames of the examples of point [8].
N = {"a": 0, "b": 5, "c": 9}
F = [("a", "b"), ("b", "a"), ("c", "b"), ("b", "c")]
SILENT = {"a": None, "b": None, "c": None}
AFTER_F = {"a": (None, None), "b": (0, 9), "c": (5, None)}

FAR = 10 ** 30
LETTERS = "abcdefghijklmnopqrstuvwxyz"


class Pair(tuple):
    """A tuple that is not exactly a tuple."""


class Row(list):
    """A list that is not exactly a list."""


def host_names(many):
    """Return so many different names of hosts."""
    names = [first + second for first in LETTERS for second in LETTERS]
    return names[:many]


def nested(depth):
    """Return a list that is nested so deep."""
    value = []
    for _ in range(depth):
        value = [value]
    return value


# Values of other kinds than the dicts, lists and strings that a test expects.
ODD_VALUES = [
    None, True, False, 0, 1, -1, FAR, "", "a", "a\n", "\t", b"", b"a", [], ["a"], [[]], (), ("a",),
    ("a", "b"), ("a", "b", "c"), ("a", []), ([], "a"), ({}, {}), {}, {"a": {}}, {1: 2}, {None: None},
    {True: False}, {("a", "b"): 3}, set(), {1, 2}, frozenset("a"), object(), len, int, range(3), nested(20),
]

# No host of any line: of another kind, or no name of a host.
NO_HOSTS = [value for value in ODD_VALUES if value != "a"] + [
    "", "A", "aB", "a1", "a ", " a", "a\n", "\na", "a\tb", "abcdefghi", "a-b", "a_b", "a@", "\u00e4", "\u0430", ["a"],
]

# No position: of another kind, or too far.
NO_POSITIONS = [None, True, False, "", "1", b"1", [], [1], (), (1,), {}, {1: 1}, set(), object(), int,
                FAR + 1, -FAR - 1, 10 ** 39, -(10 ** 39), nested(20)]


def raised(function, *values, **named):
    """Return the class of the error that a call raises, None if it raises none."""
    try:
        function(*values, **named)
    except Exception as error:
        return type(error)
    return None


def reordered(table):
    """Return equal dicts with their items in other orders."""
    hosts = list(table)
    orders = [sorted(hosts), sorted(hosts, reverse=True), hosts[1:] + hosts[:1]]
    return [{host: table[host] for host in order} for order in orders]


def unchanged(function, *values, **named):
    """Return whether a call leaves its arguments as they were, orders of dicts included."""
    before = repr((values, named))
    copies = copy.deepcopy((values, named))
    function(*values, **named)
    return repr((values, named)) == before and copies == (values, named)


def random_line(chance, many):
    """Return a line of so many hosts that are near to each other."""
    hosts = host_names(many)
    chance.shuffle(hosts)
    return dict(zip(hosts, chance.sample(range(-many, 2 * many), many)))


def random_state(chance, line):
    """Return any state of a line."""
    state = {}
    for host in line:
        low = chance.choice([None] + [at for at in line.values() if at <= line[host]])
        high = chance.choice([None] + [at for at in line.values() if at >= line[host]])
        state[host] = chance.choice([None, (low, high), (low, high), (low, high)])
    return state


def random_frames(chance, line, many):
    """Return so many frames of a line of two or more hosts."""
    return [tuple(chance.sample(sorted(line), 2)) for _ in range(many)]


def cases(many_lines, seed=1):
    """Return tuples of a line, a state and frames, the same in each run."""
    chance = random.Random(seed)
    found = []
    for _ in range(many_lines):
        line = random_line(chance, chance.randint(2, 7))
        found.append((line, random_state(chance, line), random_frames(chance, line, chance.randint(0, 12))))
    return found
