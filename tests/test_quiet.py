"""Quiet plans: points [2], [3], [5], [9](c), [10] and the interface."""

import itertools
import random
import unittest

from floodline import quiet
from floodline.errors import InvalidLine, InvalidState
from floodline.frames import kind_of, known_after
from floodline.lines import is_frames, lacking
from floodline.quiet import fewest_frames, is_quiet_plan, quiet_plan
from tests.samples import AFTER_F, F, FAR, N, ODD_VALUES, SILENT, Pair, Row
from tests.samples import cases, host_names, raised, random_line, random_state, reordered, unchanged
from tests.test_frames import NO_STATES, holds
from tests.test_lines import NO_LINES

FOUR = {"a": 0, "b": 4, "c": 7, "d": 12}
KNOWN = (None, None)
# Known at the switches of b and c, where b and c themselves are known at b or c only: b and c are in P.
IN_P = {"a": KNOWN, "b": (4, 4), "c": (7, 7), "d": KNOWN}


def intervals(line, host):
    """Return all intervals that a host may have."""
    lows = [None] + [at for at in line.values() if at <= line[host]]
    highs = [None] + [at for at in line.values() if at >= line[host]]
    return [None] + list(itertools.product(lows, highs))


def all_states(line):
    for chosen in itertools.product(*[intervals(line, host) for host in line]):
        yield dict(zip(line, chosen))


def all_direct(line, state):
    pairs = itertools.permutations(line, 2)
    return all(kind_of(line, state, sender, target) == "direct" for sender, target in pairs)


def searched(line, state, found):
    """Return the least number of frames by trying all lists; keep the answers in a dict."""
    key = tuple(state[host] for host in line)
    if key not in found:
        found[key] = 0
        if not all_direct(line, state):
            after = [known_after(line, [frame], start=state) for frame in itertools.permutations(line, 2)]
            found[key] = 1 + min([searched(line, other, found) for other in after if other != state])
    return found[key]


def counted(line, state):
    """Return the number that the words of point [10] give."""
    order = sorted(line, key=line.get)
    if len(order) == 1:
        return 0
    ends = [order[0], order[-1]]

    def known(host, at):
        return state[host] is not None and holds(state[host], line[at])

    number = len([host for host in line if not all(known(host, at) for at in line)])
    silent = [host for host in line if state[host] is None]
    if order[0] in silent or order[-1] in silent:
        return number
    in_q = [host for host in order[1:-1] if host in silent or not any(known(host, end) for end in ends)]
    in_p = [host for host in in_q if all(known(end, host) for end in ends)]
    if not silent:
        return number + len(in_p)
    return number + all(host in in_p for host in silent)


class QuietPlanTest(unittest.TestCase):
    def assert_fewest(self, line, state, expected):
        plan = quiet_plan(line, state)
        self.assertEqual(fewest_frames(line, state), expected)
        self.assertIs(type(plan), list)
        self.assertTrue(is_frames(line, plan))
        self.assertEqual(len(plan), expected)
        self.assertEqual(lacking(line, known_after(line, plan, start=state)), [])
        self.assertIs(is_quiet_plan(line, state, plan), True)

    def test_examples(self):
        self.assert_fewest(N, SILENT, 3)
        self.assert_fewest(N, {"a": (None, None), "b": None, "c": (0, None)}, 2)
        self.assert_fewest(N, AFTER_F, 1)
        self.assertEqual(quiet_plan(N, AFTER_F), [("c", "a")])
        self.assertIs(is_quiet_plan(N, SILENT, [("b", "a"), ("a", "c"), ("c", "a")]), True)

    def test_one_host(self):
        for interval in [None, (3, 3), (None, 3), (3, None), (None, None)]:
            self.assert_fewest({"a": 3}, {"a": interval}, 0)
            self.assertIs(is_quiet_plan({"a": 3}, {"a": interval}, []), True)

    def test_two_hosts(self):
        for line in [{"a": 0, "b": 1}, {"b": -FAR, "a": FAR}]:
            found = {}
            for state in all_states(line):
                self.assert_fewest(line, state, searched(line, state, found))
            self.assertEqual(set(found.values()), {0, 1, 2})

    def test_all_states_of_three_hosts(self):
        found = {}
        for state in all_states(N):
            self.assert_fewest(N, state, searched(N, state, found))
            self.assertEqual(counted(N, state), found[tuple(state.values())])

    def test_states_of_four_hosts(self):
        found = {}
        chance = random.Random(21)
        for _ in range(120):
            state = random_state(chance, FOUR)
            self.assert_fewest(FOUR, state, searched(FOUR, state, found))
            state["a"], state["d"] = (None, 12), (0, None)
            state["b"] = chance.choice([None, (4, 4), (4, 7), (0, 7)])
            state["c"] = chance.choice([None, (7, 7), (4, 7), (7, 12)])
            self.assert_fewest(FOUR, state, searched(FOUR, state, found))

    def test_all_silent(self):
        for many in [2, 3, 5, 40]:
            line = {host: at * at for at, host in enumerate(host_names(many))}
            self.assert_fewest(line, {host: None for host in line}, many)

    def test_none_silent_with_p(self):
        self.assert_fewest(FOUR, IN_P, 4)
        self.assert_fewest(FOUR, {**IN_P, "b": (0, 4)}, 3)
        self.assert_fewest(FOUR, {**IN_P, "b": (4, 12)}, 3)
        self.assert_fewest(FOUR, {**IN_P, "b": KNOWN}, 2)
        self.assert_fewest(FOUR, {**IN_P, "a": (0, 12), "d": (0, 12)}, 4)

    def test_none_silent_outside_p(self):
        self.assert_fewest(FOUR, {**IN_P, "a": (0, 0)}, 3)
        self.assert_fewest(FOUR, {**IN_P, "a": (0, 4)}, 4)
        self.assert_fewest(FOUR, {**IN_P, "d": (12, 12)}, 3)
        self.assert_fewest(FOUR, {**IN_P, "d": (7, None)}, 4)
        self.assert_fewest(FOUR, {**IN_P, "a": (0, 4), "d": (7, 12)}, 4)

    def test_silent_inside_p(self):
        self.assert_fewest(FOUR, {**IN_P, "b": None}, 3)
        self.assert_fewest(FOUR, {**IN_P, "b": None, "c": None}, 3)
        self.assert_fewest(FOUR, {**IN_P, "b": None, "c": KNOWN}, 2)
        self.assert_fewest(FOUR, {**IN_P, "b": None, "c": (0, 7)}, 3)

    def test_silent_outside_p(self):
        self.assert_fewest(FOUR, {**IN_P, "a": (0, 4), "c": None}, 3)
        self.assert_fewest(FOUR, {**IN_P, "a": (0, 4), "b": None, "c": None}, 3)
        self.assert_fewest(FOUR, {**IN_P, "a": (0, 4), "b": None}, 4)
        self.assert_fewest(FOUR, {**IN_P, "d": (7, 12), "b": None, "c": (7, 7)}, 3)
        self.assert_fewest(FOUR, {**IN_P, "d": (7, 12), "c": None, "b": KNOWN}, 3)

    def test_an_end_silent(self):
        for end in ["a", "d"]:
            self.assert_fewest(FOUR, {**IN_P, end: None}, 3)
            self.assert_fewest(FOUR, {**IN_P, end: None, "b": None}, 3)
            self.assert_fewest(FOUR, {**IN_P, end: None, "b": KNOWN, "c": KNOWN}, 1)
        self.assert_fewest(FOUR, {**IN_P, "a": None, "d": None}, 4)
        self.assert_fewest(FOUR, {**IN_P, "a": None, "d": None, "b": KNOWN, "c": KNOWN}, 2)

    def test_quiet_already(self):
        for interval in [(0, 12), (None, 12), (0, None), (None, None)]:
            self.assert_fewest(FOUR, {host: interval for host in FOUR}, 0)

    def test_larger_lines(self):
        for line, state, _ in cases(300, seed=22):
            self.assert_fewest(line, state, counted(line, state))
        chance = random.Random(23)
        for many in [10, 25, 40]:
            line = random_line(chance, many)
            for _ in range(10):
                state = random_state(chance, line)
                self.assert_fewest(line, state, counted(line, state))

    def test_thirty_eight_hosts_of_p(self):
        line = {host: at for at, host in enumerate(host_names(40))}
        state = {host: (at, at) for host, at in line.items()}
        state["aa"] = state["bn"] = (0, 39)
        self.assertEqual([line["aa"], line["bn"]], [0, 39])
        self.assert_fewest(line, state, 76)
        state["af"] = None
        self.assert_fewest(line, state, 39)


class IsQuietPlanTest(unittest.TestCase):
    def test_all_lists_of_frames(self):
        for state in [SILENT, AFTER_F, {"a": KNOWN, "b": None, "c": (0, None)}, {**SILENT, "a": KNOWN, "c": KNOWN},
                      {"a": (0, 5), "b": (5, 5), "c": (5, 9)}, {host: KNOWN for host in N}]:
            fewest = counted(N, state)
            for many in range(fewest + 2):
                for frames in itertools.product(itertools.permutations(N, 2), repeat=min(many, 3)):
                    frames = list(frames)
                    quiet_after = lacking(N, known_after(N, frames, start=state)) == []
                    self.assertIs(is_quiet_plan(N, state, frames), quiet_after and len(frames) == fewest)

    def test_a_frame_too_many_or_too_few(self):
        plan = quiet_plan(N, SILENT)
        for value in [plan[:-1], plan[1:], plan + [("a", "b")], [("a", "b")] + plan, plan + plan, [], plan * 100,
                      plan * 101]:
            self.assertIs(is_quiet_plan(N, SILENT, value), False)
        quiet_state = {host: KNOWN for host in N}
        self.assertIs(is_quiet_plan(N, quiet_state, []), True)
        self.assertIs(is_quiet_plan(N, quiet_state, [("a", "b")]), False)

    def test_values_that_are_no_frames(self):
        plan = quiet_plan(N, SILENT)
        for value in ODD_VALUES + [tuple(plan), Row(plan), iter(plan), {frame: True for frame in plan}, set(plan),
                                   [list(frame) for frame in plan], plan[:2] + [Pair(plan[2])], plan[:2] + [None],
                                   plan[:2] + [("a", "a")], plan[:2] + [("c", "d")], plan[:2] + [("c",)],
                                   plan[:2] + [("c", "a", "b")], [plan[0], plan[1], [plan[2]]]]:
            with self.subTest(repr(value)[:50]):
                self.assertIs(is_quiet_plan(N, SILENT, value), False)

    def test_values_for_a_quiet_state(self):
        for value in ODD_VALUES:
            with self.subTest(repr(value)[:50]):
                self.assertIs(is_quiet_plan({"a": 3}, {"a": None}, value), isinstance(value, list) and not value)


class ErrorTest(unittest.TestCase):
    def test_line(self):
        for line in NO_LINES:
            with self.subTest(repr(line)[:50]):
                for state in [SILENT, None]:
                    self.assertEqual(raised(fewest_frames, line, state), InvalidLine)
                    self.assertEqual(raised(quiet_plan, line, state), InvalidLine)
                    self.assertEqual(raised(is_quiet_plan, line, state, F), InvalidLine)
                    self.assertEqual(raised(is_quiet_plan, line, state, None), InvalidLine)

    def test_state(self):
        for state in NO_STATES:
            with self.subTest(repr(state)[:50]):
                self.assertEqual(raised(fewest_frames, N, state), InvalidState)
                self.assertEqual(raised(quiet_plan, N, state), InvalidState)
                self.assertEqual(raised(is_quiet_plan, N, state, F), InvalidState)
                self.assertEqual(raised(is_quiet_plan, N, state, None), InvalidState)
        for function in [fewest_frames, quiet_plan]:
            self.assertEqual(raised(function, {"a": 3}, {}), InvalidState)


class ConventionTest(unittest.TestCase):
    def test_functions_are_defined_in_this_file(self):
        for name in ["fewest_frames", "quiet_plan", "is_quiet_plan"]:
            self.assertEqual(getattr(quiet, name).__module__, "floodline.quiet")

    def test_arguments_do_not_change_and_results_are_new(self):
        line = {"b": 5, "c": 9, "a": 0}
        for state in [SILENT, AFTER_F, {"c": (5, None), "a": (None, None), "b": None}]:
            self.assertTrue(unchanged(fewest_frames, line, dict(state)))
            self.assertTrue(unchanged(quiet_plan, line, dict(state)))
            self.assertTrue(unchanged(is_quiet_plan, line, dict(state), quiet_plan(line, state)))
            found = quiet_plan(line, state)
            kept = list(found)
            found.append("x")
            self.assertEqual(quiet_plan(line, state), kept)

    def test_the_order_of_items_has_no_effect(self):
        for line, state, _ in cases(60, seed=24):
            for other in reordered(line):
                for known in reordered(state):
                    self.assertEqual(fewest_frames(other, known), fewest_frames(line, state))
                    self.assertEqual(quiet_plan(other, known), quiet_plan(line, state))
                    self.assertIs(is_quiet_plan(other, known, quiet_plan(line, state)), True)


if __name__ == "__main__":
    unittest.main()
