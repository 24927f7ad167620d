"""Consoles: points [3] to [5], [7], [10] and the interface of floodline.console."""

import unittest

from floodline import console as module
from floodline.console import Console
from floodline.errors import InvalidCommand, InvalidFrames, InvalidHost, InvalidText, NothingToUndo
from floodline.frames import kind_of, kinds_of, known_after
from floodline.lines import is_quiet
from floodline.quiet import fewest_frames
from floodline.texts import format_frames, format_line
from tests.samples import F, FAR, N, NO_HOSTS, ODD_VALUES, cases, host_names, raised
from tests.test_histories import error_of
from tests.test_texts import NO_NUMBERS

LINE = "line a@0 b@5 c@9"
# What is no row, with and without a network.
NO_ROWS = [value for value in ODD_VALUES] + [
    b"undo", ["undo"], ("undo",), ["send", "a", "b"], "", " ", "  ", "line", "Line a@0", "LINE a@0", "line\ta@0",
    "line\n", "lin a@0", "linea@0", " line a@0", "line@0", "send", "send a", "send a b c", "send a b ", " send a b",
    "send  a b", "send a  b", "send  b", "send ", "send  ", "send   ", "SEND a b", "Send a b", "send\ta b",
    "send\na b", "sends a b", "send,a,b", "kind", "kind a", "kind a b c", "kind a b ", " kind a b", "kind  a b",
    "kind a  b", "kind  b", "KIND a b", "Kind a b", "undo ", " undo", "undo a", "undo 1", "Undo", "UNDO", "undo\n",
    "\nundo", "undo\t", "und", "undoo", "known", "known ", "known  ", "known a b", "known a ", " known a", "known  a",
    "Known a", "KNOWN a", "quiet ", " quiet", "quiet a", "Quiet", "QUIET", "quiet\n", "fewest ", " fewest",
    "fewest a", "Fewest", "FEWEST", "frames ", " frames", "frames a", "Frames", "FRAMES", "frame", "a>b", "a b",
    "send a>b", "help", "ok", "silent", "*", "-", "twin", "tried a b", "from_record", "execute undo", "undo undo",
    "fewest\t", "frames\n", "quiet yes"]
NEED_A_NETWORK = ["send a b", "kind a b", "undo", "known a", "quiet", "fewest", "frames", "send x y", "known x",
                  "kind ? ?", "send a a"]


def started(*rows):
    """Return a console on which rows were run, a line at first."""
    console = Console()
    for row in (LINE,) + rows:
        console.execute(row)
    return console


def answers(console, *rows):
    return [console.execute(row) for row in rows]


def told(console, hosts="abc"):
    """Return all that a console tells without a change."""
    return answers(console, "frames", "quiet", "fewest", *["known " + host for host in hosts])


def ends_text(interval):
    return "silent" if interval is None else " ".join("*" if end is None else str(end) for end in interval)


class ExampleTest(unittest.TestCase):
    def test_examples(self):
        rows = ["line a@0 b@5 c@9", "send a b", "send b a", "send c b", "known c", "fewest"]
        self.assertEqual(answers(Console(), *rows), ["ok", "all", "direct", "flood", "5 *", "2"])

    def test_all_rows(self):
        rows = [(LINE, "ok"), ("frames", "-"), ("quiet", "no"), ("fewest", "3"), ("known a", "silent"),
                ("kind a b", "all"), ("frames", "-"), ("send a b", "all"), ("known a", "* *"), ("frames", "a>b"),
                ("kind b a", "direct"), ("send b a", "direct"), ("known b", "0 5"), ("kind c b", "flood"),
                ("send c b", "flood"), ("known c", "5 *"), ("send b c", "direct"), ("known b", "0 9"),
                ("frames", "a>b b>a c>b b>c"), ("fewest", "1"), ("quiet", "no"), ("send c a", "direct"),
                ("known c", "0 *"), ("fewest", "0"), ("quiet", "yes"), ("undo", "ok"), ("quiet", "no"),
                ("frames", "a>b b>a c>b b>c"), ("undo", "ok"), ("undo", "ok"), ("undo", "ok"), ("undo", "ok"),
                ("frames", "-"), ("known b", "silent")]
        console = Console()
        for row, expected in rows:
            with self.subTest(row):
                self.assertEqual(console.execute(row), expected)
        self.assertEqual(raised(console.execute, "undo"), NothingToUndo)

    def test_answers_are_strings(self):
        console = started("send a b")
        for row in ["send b a", "kind a c", "known a", "quiet", "fewest", "frames", "undo", "line a@0", "fewest"]:
            self.assertIs(type(console.execute(row)), str)


class NoRowTest(unittest.TestCase):
    def test_what_is_no_row(self):
        for row in NO_ROWS:
            with self.subTest(repr(row)[:40]):
                self.assertEqual(raised(Console().execute, row), InvalidCommand)
                console = started("send a b", "send b a")
                before = told(console)
                self.assertEqual(raised(console.execute, row), InvalidCommand)
                self.assertEqual(told(console), before)

    def test_rows_that_need_a_network(self):
        for row in NEED_A_NETWORK:
            console = Console()
            self.assertEqual(raised(console.execute, row), InvalidCommand)
            self.assertEqual(raised(console.execute, "line ?"), InvalidText)
            self.assertEqual(raised(console.execute, row), InvalidCommand)

    def test_very_long_rows(self):
        for row in ["send " * 800, "x" * 4000, "send a " + "b" * 3900, " " * 4000, "line " + " " * 3990]:
            error = InvalidHost if row.startswith("send a b") else InvalidText if row[0] == "l" else InvalidCommand
            self.assertEqual(raised(started().execute, row), error)


class LineTest(unittest.TestCase):
    def test_a_new_network(self):
        console = started("send a b", "send b a")
        self.assertEqual(console.execute("line x@-7 y@0"), "ok")
        self.assertEqual(told(console, "xy"), ["-", "no", "2", "silent", "silent"])
        self.assertEqual(raised(console.execute, "undo"), NothingToUndo)
        self.assertEqual(raised(console.execute, "known a"), InvalidHost)
        self.assertEqual(answers(console, "send x y", "known x"), ["all", "* *"])

    def test_the_same_line_again(self):
        console = started("send a b")
        self.assertEqual(console.execute(LINE), "ok")
        self.assertEqual(console.execute("frames"), "-")
        self.assertEqual(raised(console.execute, "undo"), NothingToUndo)

    def test_wrong_texts(self):
        for text, index in [("", 0), (" ", 0), ("  ", 0), (" a@0", 0), ("a@0 ", 1), ("a@0  b@5", 1), ("a", 0),
                            ("a@0 a@1", 1), ("a@0 b@0", 1), ("a@1 b@0", 1), ("A@0", 0), ("abcdefghi@0", 0),
                            ("a@0\n", 0), ("a@0\tb@1", 0), ("line a@0", 0), ("a@0 b@5 c", 2),
                            ("a@0 b@05", 1), ("?", 0), (" " * 39, 0), ("\n", 0),
                            ("a@0 b@5 c@9 undo", 3), (" " * 40, None), (" ".join(["a@0"] * 41), None)]:
            with self.subTest(text):
                for console in [Console(), started("send a b", "send b a")]:
                    error = error_of(console.execute, "line " + text)
                    self.assertIs(type(error), InvalidText)
                    self.assertEqual(error.index, index)
        for number in NO_NUMBERS:
            self.assertEqual(error_of(Console().execute, "line a@" + number).index, 0)

    def test_the_old_network_stays_behind_a_wrong_text(self):
        console = started("send a b", "send b a")
        before = told(console)
        for text in ["", " ", "?", "a@0 a@0", " " * 100]:
            self.assertEqual(raised(console.execute, "line " + text), InvalidText)
            self.assertEqual(told(console), before)
        self.assertEqual(answers(console, "undo", "frames", "undo", "frames"), ["ok", "a>b", "ok", "-"])

    def test_lines_of_one_and_of_forty_hosts(self):
        console = Console()
        self.assertEqual(answers(console, "line a@3", "quiet", "fewest", "known a", "frames"),
                         ["ok", "yes", "0", "silent", "-"])
        self.assertEqual(raised(console.execute, "send a a"), InvalidHost)
        line = {host: at * 10 ** 28 - FAR for at, host in enumerate(host_names(40))}
        self.assertEqual(answers(console, "line " + format_line(line), "fewest", "quiet"), ["ok", "40", "no"])


class HostTest(unittest.TestCase):
    def test_hosts_that_are_not_there(self):
        words = [host for host in NO_HOSTS if isinstance(host, str) and host != "" and " " not in host]
        console = started("send a b")
        before = told(console)
        for word in words + ["d", "ab", "*", "a>b", "a@0", "-", "\n", "a\n", "\t", "silent", "\u00a0", "send"]:
            with self.subTest(repr(word)):
                for row in [f"send {word} a", f"send a {word}", f"send {word} {word}", f"kind {word} a",
                            f"kind a {word}", f"kind {word} {word}", f"known {word}"]:
                    self.assertEqual(raised(console.execute, row), InvalidHost)
        for row in ["send a a", "kind a a", "send c c", "kind c c"]:
            self.assertEqual(raised(console.execute, row), InvalidHost)
        self.assertEqual(told(console), before)

    def test_hosts_with_the_names_of_commands(self):
        console = Console()
        rows = ["line line@0 send@1 undo@2", "send line send", "kind send undo", "known line", "frames"]
        self.assertEqual(answers(console, *rows), ["ok", "all", "all", "* *", "line>send"])


class ChangeTest(unittest.TestCase):
    def test_kind_changes_nothing(self):
        console = started("send a b")
        before = told(console)
        for row, expected in [("kind b a", "direct"), ("kind a b", "all"), ("kind c a", "direct"), ("kind c b", "all")]:
            self.assertEqual(console.execute(row), expected)
            self.assertEqual(told(console), before)
        self.assertEqual(answers(console, "undo", "frames"), ["ok", "-"])

    def test_undo(self):
        console = started()
        self.assertEqual(raised(console.execute, "undo"), NothingToUndo)
        before = []
        for sender, target in F:
            before.append(told(console))
            console.execute(f"send {sender} {target}")
        for expected in reversed(before):
            self.assertEqual(console.execute("undo"), "ok")
            self.assertEqual(told(console), expected)
        self.assertEqual(raised(console.execute, "undo"), NothingToUndo)
        self.assertEqual(answers(console, "send a b", "undo", "frames"), ["all", "ok", "-"])

    def test_undo_behind_errors(self):
        console = started("send a b")
        for row in ["send a a", "send d a", "undo ", "line ?", "known d", None]:
            raised(console.execute, row)
        self.assertEqual(answers(console, "frames", "undo", "frames"), ["a>b", "ok", "-"])

    def test_two_consoles_side_by_side(self):
        one, other = Console(), Console()
        self.assertEqual(one.execute(LINE), "ok")
        self.assertEqual(raised(other.execute, "frames"), InvalidCommand)
        self.assertEqual(other.execute("line x@0 y@1"), "ok")
        self.assertEqual((one.execute("send a b"), other.execute("send y x")), ("all", "all"))
        self.assertEqual((one.execute("frames"), other.execute("frames")), ("a>b", "y>x"))
        self.assertEqual(one.execute("undo"), "ok")
        self.assertEqual((one.execute("frames"), other.execute("frames")), ("-", "y>x"))
        self.assertEqual((raised(one.execute, "undo"), other.execute("undo")), (NothingToUndo, "ok"))

    def test_three_hundred_frames(self):
        console = started()
        for at in range(300):
            console.execute("send {} {}".format(*F[at % 4]))
        self.assertEqual(console.execute("frames"), format_frames(N, F * 75))
        self.assertEqual(answers(console, "known a", "fewest", "send c a", "quiet"), ["* *", "1", "direct", "yes"])
        # There are more frames now than the functions that take frames accept.
        self.assertEqual(raised(console.execute, "frames"), InvalidFrames)
        self.assertEqual(answers(console, "undo", "frames"), ["ok", format_frames(N, F * 75)])

    def test_what_functions_tell(self):
        for line, _, frames in cases(40, seed=111):
            console = Console()
            console.execute("line " + format_line(line))
            for at, frame in enumerate(frames):
                known = known_after(line, frames[:at])
                self.assertEqual(console.execute("quiet"), "yes" if is_quiet(line, known) else "no")
                self.assertEqual(console.execute("fewest"), str(fewest_frames(line, known)))
                self.assertEqual(console.execute("frames"), format_frames(line, frames[:at]) or "-")
                for host in line:
                    self.assertEqual(console.execute("known " + host), ends_text(known[host]))
                    if host != frame[0]:
                        expected = kind_of(line, known, frame[0], host)
                        self.assertEqual(console.execute(f"kind {frame[0]} {host}"), expected)
                self.assertEqual(console.execute("send {} {}".format(*frame)), kinds_of(line, frames)[at])


class DefinitionTest(unittest.TestCase):
    def test_the_class_is_defined_in_this_file(self):
        self.assertEqual(Console.__module__, "floodline.console")
        self.assertIs(module.Console, Console)
        self.assertIn("execute", vars(Console))


if __name__ == "__main__":
    unittest.main()
