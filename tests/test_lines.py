"""Lines, states and frames: points [2], [4], [5], [9](c), [10] and the interface."""

import unittest

from floodline import lines
from floodline.errors import InvalidLine, InvalidState
from floodline.frames import kind_of
from floodline.lines import in_order, is_frames, is_line, is_quiet, is_state, lacking
from tests.samples import AFTER_F, F, FAR, N, NO_HOSTS, NO_POSITIONS, ODD_VALUES, SILENT
from tests.samples import Pair, Row, cases, host_names, raised, random_frames, reordered, unchanged

NO_LINES = [value for value in ODD_VALUES] + [{"a": None}, {"a": 0, "b": 0}, [("a", 0)], "a@0"]


class IsLineTest(unittest.TestCase):
    def test_numbers_of_hosts(self):
        for many, expected in [(0, False), (1, True), (2, True), (39, True), (40, True), (41, False), (400, False)]:
            line = {host: at for at, host in enumerate(host_names(many))}
            with self.subTest(many):
                self.assertEqual(len(line), many)
                self.assertIs(is_line(line), expected)

    def test_names_of_hosts(self):
        for name in ["a", "z", "m", "az", "abcdefgh", "zzzzzzzz", "all", "none"]:
            with self.subTest(name):
                self.assertIs(is_line({name: 0}), True)
                self.assertIs(is_line({"q": -1, name: 0}), True)

    def test_what_is_no_name(self):
        for name in NO_HOSTS + ["`", "{", "@", "[", "a`", "z{", "a" * 4000]:
            with self.subTest(repr(name)[:50]):
                if raised(hash, name) is None:
                    self.assertIs(is_line({name: 0}), False)
                    self.assertIs(is_line({"q": -1, name: 0}), False)
                    self.assertIs(is_line({name: 0, "q": -1}), False)

    def test_limits_of_positions(self):
        for position in [0, 1, -1, FAR, -FAR, FAR - 1, 1 - FAR]:
            with self.subTest(position):
                self.assertIs(is_line({"a": position}), True)
                self.assertIs(is_line({"a": position, "b": 17}), True)

    def test_what_is_no_position(self):
        for position in NO_POSITIONS:
            with self.subTest(repr(position)[:50]):
                self.assertIs(is_line({"a": position}), False)
                self.assertIs(is_line({"a": position, "b": 17}), False)
                self.assertIs(is_line({"b": 17, "a": position}), False)

    def test_positions_are_different(self):
        self.assertIs(is_line({"b": 5, "a": 5}), False)
        self.assertIs(is_line({"a": FAR, "b": -FAR}), True)
        self.assertIs(is_line({"a": FAR, "b": FAR}), False)
        self.assertIs(is_line({"a": 3, "b": 1, "c": 2, "d": 3}), False)
        line = {host: at for at, host in enumerate(host_names(40))}
        line["bn"] = 0
        self.assertEqual(len(line), 40)
        self.assertIs(is_line(line), False)

    def test_true_is_no_position_beside_others(self):
        self.assertIs(is_line({"a": True, "b": 0}), False)
        self.assertIs(is_line({"a": 2, "b": False}), False)

    def test_other_values(self):
        for value in NO_LINES:
            with self.subTest(repr(value)[:50]):
                self.assertIs(is_line(value), False)


class IsStateTest(unittest.TestCase):
    def test_states(self):
        for state in [SILENT, AFTER_F, {"a": (0, 0), "b": (5, 5), "c": (9, 9)}, {"a": (0, 9), "b": None, "c": (0, 9)},
                      {"a": (None, 0), "b": (None, 5), "c": (None, 9)}, {"a": (0, None), "b": (0, 5), "c": (0, None)}]:
            with self.subTest(state):
                self.assertIs(is_state(N, state), True)

    def test_one_host(self):
        for interval in [None, (3, 3), (None, 3), (3, None), (None, None)]:
            self.assertIs(is_state({"a": 3}, {"a": interval}), True)
        self.assertIs(is_state({"a": 3}, {"a": (2, 4)}), False)

    def test_all_hosts_and_no_others(self):
        for state in [{}, {"a": None, "b": None}, {**SILENT, "d": None}, {"a": None, "b": None, "d": None},
                      {"a": None, "b": None, "C": None}, {"a": None, "b": None, None: None}, {**SILENT, 1: None}]:
            with self.subTest(state):
                self.assertIs(is_state(N, state), False)

    def test_ends_are_positions_of_hosts(self):
        for interval in [(4, 5), (5, 6), (-1, None), (None, 10), (1, 8), (-FAR, FAR)]:
            with self.subTest(interval):
                self.assertIs(is_state(N, {**SILENT, "b": interval}), False)

    def test_ends_are_on_their_side_of_the_own_position(self):
        for interval in [(0, 0), (9, 9), (9, 0), (9, None), (None, 0), (9, 5), (5, 0)]:
            with self.subTest(interval):
                self.assertIs(is_state(N, {**SILENT, "b": interval}), False)
        self.assertIs(is_state(N, {**SILENT, "a": (5, 9)}), False)
        self.assertIs(is_state(N, {**SILENT, "c": (0, 5)}), False)

    def test_what_is_no_end(self):
        line = {"a": 0, "b": 1}
        self.assertIs(is_state(line, {"a": (0, 1), "b": (0, 1)}), True)
        for wrong in [True, False, "", "0", "1", [], [0], (), (0,), {}, set(), "a", b"", object(), FAR, -1, 2]:
            for interval in [(wrong, 1), (wrong, None), (0, wrong), (None, wrong), (wrong, wrong)]:
                with self.subTest(repr(interval)):
                    self.assertIs(is_state(line, {"a": interval, "b": None}), False)
                    self.assertIs(is_state(line, {"a": None, "b": interval}), False)

    def test_what_is_no_interval(self):
        for interval in [[0, 5], [None, None], (), (0,), (None,), (0, 5, 9), (0, 5, None), (None, None, None), "05",
                         0, True, False, {}, {0: 5}, {0, 5}, "", "a", b"ab", Pair((0, 5)), ((0, 5), (0, 5)), object()]:
            for host in N:
                with self.subTest(repr(interval), host=host):
                    self.assertIs(is_state(N, {**SILENT, host: interval}), False)

    def test_other_values(self):
        for value in ODD_VALUES + [["a", "b", "c"], list(SILENT.items()), {"a", "b", "c"}, "abc", ("a", "b", "c")]:
            with self.subTest(repr(value)[:50]):
                self.assertIs(is_state(N, value), False)

    def test_the_line_is_checked_first(self):
        for line in NO_LINES:
            for value in [SILENT, None, {}]:
                with self.subTest(repr(line)[:50]):
                    self.assertEqual(raised(is_state, line, value), InvalidLine)


class IsFramesTest(unittest.TestCase):
    def test_numbers_of_frames(self):
        for many, expected in [(0, True), (1, True), (299, True), (300, True), (301, False), (400, False)]:
            with self.subTest(many):
                self.assertIs(is_frames(N, [("a", "b")] * many), expected)

    def test_frames(self):
        for first in N:
            for second in N:
                with self.subTest(first + second):
                    self.assertIs(is_frames(N, [(first, second)]), first != second)
        self.assertIs(is_frames(N, F), True)
        self.assertIs(is_frames({"ab": 1, "ba": 0}, [("ab", "ba")]), True)

    def test_one_host_has_no_frames(self):
        self.assertIs(is_frames({"a": 3}, []), True)
        self.assertIs(is_frames({"a": 3}, [("a", "a")]), False)

    def test_a_wrong_frame_anywhere(self):
        wrong = [["a", "b"], ("a",), (), ("a", "b", "c"), ("a", "b", "a"), ("a", "d"), ("d", "a"), ("a", "a"),
                 ("c", "c"),
                 ("", "a"), ("a", ""), ("A", "b"), ("a", None), (None, "a"), (None, None), ("a", ["b"]), (["a"], "b"),
                 ("a", {}), ({}, "a"), ("a", ("b",)), (0, 5), (0, "b"), (b"a", b"b"), "ab", {"a", "b"}, {"a": "b"},
                 None, True, 0, Pair(("a", "b")), ("a", "b\n"), ("a ", "b"), ("a", True), object()]
        for frame in wrong:
            for many, at in [(1, 0), (300, 0), (300, 150), (300, 299), (2, 1)]:
                frames = (F * 75)[:many]
                frames[at] = frame
                with self.subTest(repr(frame), many=many, at=at):
                    self.assertIs(is_frames(N, frames), False)

    def test_other_values(self):
        others = [value for value in ODD_VALUES if value != []]
        for value in others + [tuple(F), (("a", "b"),), {("a", "b")}, {("a", "b"): None}, Row(F), "a>b", iter(F)]:
            with self.subTest(repr(value)[:50]):
                self.assertIs(is_frames(N, value), False)

    def test_the_line_is_checked_first(self):
        for line in NO_LINES:
            for value in [F, [], None]:
                with self.subTest(repr(line)[:50]):
                    self.assertEqual(raised(is_frames, line, value), InvalidLine)


class InOrderTest(unittest.TestCase):
    def test_examples(self):
        self.assertEqual(in_order({"b": 5, "a": 7}), ["b", "a"])
        self.assertEqual(in_order(N), ["a", "b", "c"])

    def test_one_host(self):
        self.assertEqual(in_order({"a": 3}), ["a"])

    def test_positions_are_compared_as_numbers(self):
        self.assertEqual(in_order({"a": 10, "b": 9, "c": -10, "d": -9, "e": 0}), ["c", "d", "e", "b", "a"])
        self.assertEqual(in_order({"a": FAR, "b": -FAR, "c": 1 - FAR, "d": FAR - 1}), ["b", "c", "d", "a"])

    def test_forty_hosts(self):
        hosts = host_names(40)
        self.assertEqual(in_order({host: -at for at, host in enumerate(hosts)}), hosts[::-1])

    def test_errors(self):
        for line in NO_LINES:
            with self.subTest(repr(line)[:50]):
                self.assertEqual(raised(in_order, line), InvalidLine)


class QuietTest(unittest.TestCase):
    def assert_lacking(self, line, state, expected):
        self.assertEqual(lacking(line, state), expected)
        self.assertIs(is_quiet(line, state), expected == [])

    def test_examples(self):
        self.assert_lacking(N, AFTER_F, ["c"])
        self.assertIs(is_quiet({"a": 3}, {"a": None}), True)

    def test_silent_hosts_lack(self):
        self.assert_lacking(N, SILENT, ["a", "b", "c"])
        self.assert_lacking(N, {"a": (None, None), "b": None, "c": (0, None)}, ["b"])
        self.assert_lacking(N, {"a": None, "b": (0, 9), "c": (0, 9)}, ["a"])

    def test_both_ends_have_to_be_known(self):
        for interval in [(0, 9), (None, 9), (0, None), (None, None)]:
            with self.subTest(interval):
                self.assert_lacking(N, {host: interval for host in N}, [])
        for interval in [(0, 5), (None, 5), (5, 9), (5, None), (5, 5)]:
            with self.subTest(interval):
                self.assert_lacking(N, {"a": (0, 9), "b": interval, "c": (0, 9)}, ["b"])

    def test_one_host_is_quiet(self):
        for interval in [None, (3, 3), (None, 3), (3, None), (None, None)]:
            self.assert_lacking({"a": 3}, {"a": interval}, [])

    def test_two_hosts(self):
        line = {"b": -FAR, "a": FAR}
        self.assert_lacking(line, {"a": (-FAR, FAR), "b": (-FAR, FAR)}, [])
        self.assert_lacking(line, {"a": (FAR, None), "b": (None, -FAR)}, ["b", "a"])
        self.assert_lacking(line, {"a": (FAR, FAR), "b": (-FAR, FAR)}, ["a"])

    def test_ascending_positions(self):
        line = {"a": 4, "b": -3, "c": 10, "d": 9, "e": -20}
        self.assert_lacking(line, {host: None for host in line}, ["e", "b", "a", "d", "c"])

    def test_quiet_means_that_each_frame_would_be_direct(self):
        quiet = 0
        for line, state, _ in cases(300):
            kinds = {kind_of(line, state, sender, target) for sender in line for target in line if sender != target}
            self.assertIs(is_quiet(line, state), kinds == {"direct"})
            quiet += is_quiet(line, state)
        self.assertTrue(0 < quiet < 300)

    def test_a_host_lacks_if_a_frame_to_it_is_not_direct_from_some_host_or_end(self):
        for line, state, _ in cases(200, seed=2):
            ends = [min(line.values()), max(line.values())]
            expected = []
            for host in sorted(line, key=line.get):
                low, high = state[host] or (line[host] + 1, line[host] - 1)
                if not all((low is None or low <= end) and (high is None or end <= high) for end in ends):
                    expected.append(host)
            self.assert_lacking(line, state, expected)

    def test_errors(self):
        for function in [lacking, is_quiet]:
            for line in NO_LINES:
                self.assertEqual(raised(function, line, SILENT), InvalidLine)
                self.assertEqual(raised(function, line, None), InvalidLine)
            for state in ODD_VALUES + [{"a": None}, {**SILENT, "d": None}, {**SILENT, "a": [0, 0]}]:
                with self.subTest(function.__name__, state=repr(state)[:50]):
                    self.assertEqual(raised(function, N, state), InvalidState)
            self.assertEqual(raised(function, {"a": 3}, {}), InvalidState)


class ConventionTest(unittest.TestCase):
    def test_functions_are_defined_in_this_file(self):
        for name in ["is_line", "is_state", "is_frames", "in_order", "lacking", "is_quiet"]:
            self.assertEqual(getattr(lines, name).__module__, "floodline.lines")

    def test_arguments_do_not_change(self):
        line = {"b": 5, "c": 9, "a": 0}
        state = {"c": (5, None), "a": (None, None), "b": None}
        frames = list(F)
        self.assertTrue(unchanged(is_line, line))
        self.assertTrue(unchanged(is_state, line, state))
        self.assertTrue(unchanged(is_frames, line, frames))
        self.assertTrue(unchanged(in_order, line))
        self.assertTrue(unchanged(lacking, line, state))
        self.assertTrue(unchanged(is_quiet, line, state))

    def test_results_are_new(self):
        for function, values in [(in_order, (N,)), (lacking, (N, SILENT)), (lacking, ({"a": 1}, {"a": None}))]:
            first = function(*values)
            kept = list(first)
            first.append("x")
            self.assertIs(type(first), list)
            self.assertEqual(function(*values), kept)

    def test_the_order_of_items_has_no_effect(self):
        for line, state, frames in cases(30, seed=3):
            for other in reordered(line):
                for known in reordered(state):
                    self.assertEqual(in_order(other), in_order(line))
                    self.assertEqual(lacking(other, known), lacking(line, state))
                    self.assertIs(is_state(other, known), True)
                    self.assertIs(is_frames(other, frames), True)
                    self.assertIs(is_line(other), True)

    def test_forty_hosts(self):
        import random
        line = {host: at * FAR // 40 for at, host in enumerate(host_names(40))}
        self.assertIs(is_state(line, {host: (0, None) for host in line}), True)
        self.assertIs(is_frames(line, random_frames(random.Random(4), line, 300)), True)
        self.assertEqual(lacking(line, {host: (None, 39 * FAR // 40) for host in line}), [])


if __name__ == "__main__":
    unittest.main()
