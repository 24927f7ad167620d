"""Frames: points [2], [3], [5] to [9](a) and (b) and the interface."""

import inspect
import itertools
import random
import unittest

from floodline import frames as module
from floodline.errors import InvalidFrames, InvalidHost, InvalidLine, InvalidPosition, InvalidState
from floodline.frames import heard_at, kind_of, kinds_of, known_after, reach_of, switches_reached
from tests.samples import AFTER_F, F, FAR, N, NO_HOSTS, NO_POSITIONS, ODD_VALUES, SILENT
from tests.samples import cases, host_names, raised, random_frames, reordered, unchanged
from tests.switches import Switches
from tests.test_lines import NO_LINES

NO_STATES = ODD_VALUES + [{"a": None}, {**SILENT, "d": None}, {**SILENT, "a": [0, 0]}, {**SILENT, "b": (4, 5)}]
NO_FRAMES = [value for value in ODD_VALUES if value != []] + [
    tuple(F), [("a", "a")], F + [("a", "d")], [["a", "b"]], [("a", "b")] * 301, F + [None]]
EVEN = {"a": 0, "b": 10, "c": 20, "d": 30}


def first_of(line, state, sender, target, many=12):
    """Return the first positions that a frame reaches."""
    return list(itertools.islice(switches_reached(line, state, sender, target), many))


def first_reached(line, state, sender, target):
    """Request one position of the generator, so that it raises its errors."""
    return next(switches_reached(line, state, sender, target))


def holds(reach, position):
    low, high = reach
    return (low is None or low <= position) and (high is None or position <= high)


def walked(line, state, sender, target, margin=6):
    """Pass a frame on from switch to switch as point [6] says; return the window and what is reached."""
    window = range(min(line.values()) - margin, max(line.values()) + margin + 1)
    reached = []
    queue = [(line[sender], None)]
    while queue:
        at, origin = queue.pop()
        if at not in window:
            continue
        reached.append(at)
        if state[target] is not None and holds(state[target], at):
            towards = [at + 1] if at < line[target] else [at - 1] if at > line[target] else []
        else:
            towards = [at - 1, at + 1]
        queue.extend([(to, at) for to in towards if to != origin])
    return window, sorted(reached)


class KindAndReachTest(unittest.TestCase):
    def assert_frame(self, line, state, frame, kind, reach):
        self.assertEqual(kind_of(line, state, *frame), kind)
        self.assertEqual(reach_of(line, state, *frame), reach)

    def test_the_table_of_the_document(self):
        rows = [("all", (None, None), (None, None)), ("direct", (0, 5), (0, 5)),
                ("flood", (5, None), (5, None)), ("direct", (5, 9), (0, 9))]
        for at, (kind, reach, interval) in enumerate(rows):
            state = known_after(N, F[:at])
            self.assert_frame(N, state, F[at], kind, reach)
            self.assertEqual(known_after(N, F[:at + 1])[F[at][0]], interval)

    def test_all_to_both_sides(self):
        for sender, target in itertools.permutations(N, 2):
            self.assert_frame(N, SILENT, (sender, target), "all", (None, None))
            known = {host: (None, None) for host in N}
            self.assert_frame(N, {**known, target: None}, (sender, target), "all", (None, None))

    def test_flood_to_both_sides(self):
        state = {host: (at, at) for host, at in EVEN.items()}
        for sender, target in itertools.permutations(EVEN, 2):
            if EVEN[sender] > EVEN[target]:
                self.assert_frame(EVEN, state, (sender, target), "flood", (EVEN[target], None))
            else:
                self.assert_frame(EVEN, state, (sender, target), "flood", (None, EVEN[target]))

    def test_direct_to_both_sides(self):
        state = {host: (0, 30) for host in EVEN}
        for sender, target in itertools.permutations(EVEN, 2):
            low, high = sorted([EVEN[sender], EVEN[target]])
            self.assert_frame(EVEN, state, (sender, target), "direct", (low, high))

    def test_known_but_not_at_the_switch_of_the_sender(self):
        for interval, left, right in [((10, 20), "flood", "flood"), ((0, 20), "direct", "flood"),
                                      ((10, 30), "flood", "direct"),
                                      ((0, 30), "direct", "direct"), ((None, 20), "direct", "flood"),
                                      ((10, None), "flood", "direct"), ((None, None), "direct", "direct")]:
            state = {"a": None, "b": interval, "c": None, "d": None}
            self.assert_frame(EVEN, state, ("a", "b"), left, (0, 10) if left == "direct" else (None, 10))
            self.assert_frame(EVEN, state, ("d", "b"), right, (10, 30) if right == "direct" else (10, None))

    def test_the_interval_of_the_sender_has_no_effect(self):
        for interval in [None, (0, 0), (None, None), (0, 9), (None, 5)]:
            self.assert_frame(N, {**AFTER_F, "a": interval}, ("a", "c"), "flood", (None, 9))

    def test_far_positions(self):
        line = {"a": -FAR, "b": FAR}
        self.assert_frame(line, {"a": None, "b": (-FAR, FAR)}, ("a", "b"), "direct", (-FAR, FAR))
        self.assert_frame(line, {"a": None, "b": (FAR, None)}, ("a", "b"), "flood", (None, FAR))
        self.assert_frame(line, {"a": (None, -FAR), "b": None}, ("b", "a"), "flood", (-FAR, None))

    def test_switches_that_pass_on_as_point_6_says(self):
        seen = set()
        for line, state, frames in cases(200):
            for sender, target in frames:
                window, reached = walked(line, state, sender, target)
                reach = reach_of(line, state, sender, target)
                self.assertEqual(reached, [at for at in window if holds(reach, at)])
                seen.add((kind_of(line, state, sender, target), line[sender] < line[target]))
        self.assertEqual(len(seen), 6)

    def test_more_knowledge_never_reaches_more_switches(self):
        for line, state, frames in cases(200, seed=5):
            wider = known_after(line, frames, start=state)
            for sender, target in itertools.permutations(line, 2):
                reach = reach_of(line, wider, sender, target)
                before = reach_of(line, state, sender, target)
                for at in range(min(line.values()) - 3, max(line.values()) + 4):
                    self.assertTrue(holds(before, at) or not holds(reach, at))


class SwitchesReachedTest(unittest.TestCase):
    def test_it_is_a_generator(self):
        self.assertTrue(inspect.isgeneratorfunction(switches_reached))
        self.assertTrue(inspect.isgenerator(switches_reached(N, SILENT, "a", "b")))

    def test_direct_to_the_right_ends(self):
        self.assertEqual(list(switches_reached(N, {"a": None, "b": None, "c": (5, 9)}, "b", "c")), [5, 6, 7, 8, 9])

    def test_direct_to_the_left_ends(self):
        self.assertEqual(list(switches_reached(N, {"a": (0, 5), "b": None, "c": None}, "b", "a")), [5, 4, 3, 2, 1, 0])

    def test_direct_to_the_next_switch(self):
        line = {"a": -1, "b": 0}
        state = {"a": (None, None), "b": (None, None)}
        self.assertEqual(list(switches_reached(line, state, "a", "b")), [-1, 0])
        self.assertEqual(list(switches_reached(line, state, "b", "a")), [0, -1])

    def test_all_does_not_end(self):
        self.assertEqual(first_of(N, SILENT, "b", "c", 9), [5, 4, 6, 3, 7, 2, 8, 1, 9])
        self.assertEqual(first_of(N, SILENT, "b", "c", 5001)[-2:], [5 - 2500, 5 + 2500])

    def test_flood_to_the_left_is_limited_there(self):
        state = {"a": None, "b": (0, 5), "c": None}
        self.assertEqual(first_of(N, state, "c", "b"), [9, 8, 10, 7, 11, 6, 12, 5, 13, 14, 15, 16])

    def test_flood_to_the_right_is_limited_there(self):
        state = {"a": None, "b": (5, 9), "c": None}
        self.assertEqual(first_of(N, state, "a", "b", 14), [0, -1, 1, -2, 2, -3, 3, -4, 4, -5, 5, -6, -7, -8])

    def test_flood_to_the_next_switch(self):
        line = {"a": 0, "b": 1}
        state = {"a": (0, 0), "b": (1, 1)}
        self.assertEqual(first_of(line, state, "a", "b", 5), [0, -1, 1, -2, -3])
        self.assertEqual(first_of(line, state, "b", "a", 5), [1, 0, 2, 3, 4])

    def test_two_generators_at_a_time(self):
        one = switches_reached(N, SILENT, "a", "b")
        other = switches_reached(N, {"a": None, "b": (0, 5), "c": None}, "c", "b")
        both = [(next(one), next(other)) for _ in range(6)]
        self.assertEqual(both, [(0, 9), (-1, 8), (1, 10), (-2, 7), (2, 11), (-3, 6)])
        same = [switches_reached(N, SILENT, "a", "b") for _ in range(2)]
        self.assertEqual([next(same[0]), next(same[0]), next(same[1]), next(same[0])], [0, -1, 0, 1])

    def test_far_positions(self):
        line = {"a": -FAR, "b": FAR}
        self.assertEqual(first_of(line, {"a": None, "b": None}, "b", "a", 3), [FAR, FAR - 1, FAR + 1])
        state = {"a": None, "b": (-FAR, FAR)}
        self.assertEqual(first_of(line, state, "a", "b", 3), [-FAR, 1 - FAR, 2 - FAR])

    def test_it_yields_what_the_reach_contains(self):
        for line, state, frames in cases(100, seed=6):
            for sender, target in frames:
                low, high = reach_of(line, state, sender, target)
                start = line[sender]
                near = [at for at in range(start - 60, start + 61) if holds((low, high), at)]
                near.sort(key=lambda at: (abs(at - start), at))
                limited = low is not None and high is not None
                reached = first_of(line, state, sender, target, 61)
                self.assertEqual(reached, near if limited else near[:61])


class SentTest(unittest.TestCase):
    def test_examples(self):
        self.assertEqual(kinds_of(N, F), ["all", "direct", "flood", "direct"])
        self.assertEqual(known_after(N, F), AFTER_F)
        self.assertEqual(heard_at(N, F, 100), [0, 2])
        self.assertEqual(heard_at(N, F, -1), [0])
        self.assertEqual(reach_of(N, known_after(N, F[:2]), "c", "b"), (5, None))

    def test_no_frames(self):
        self.assertEqual(kinds_of(N, []), [])
        self.assertEqual(known_after(N, []), SILENT)
        self.assertEqual(heard_at(N, [], 0), [])
        self.assertEqual(known_after(N, [], start=AFTER_F), AFTER_F)
        self.assertEqual(known_after({"a": 3}, [], start={"a": (None, 3)}), {"a": (None, 3)})

    def test_start_none_is_silent(self):
        self.assertEqual(kinds_of(N, F, start=None), kinds_of(N, F, start=SILENT))
        self.assertEqual(known_after(N, F, start=None), known_after(N, F, start=SILENT))
        self.assertEqual(heard_at(N, F, 7, start=None), heard_at(N, F, 7, start=SILENT))

    def test_another_start(self):
        start = {"a": (0, 5), "b": None, "c": (5, 9)}
        self.assertEqual(kinds_of(N, [("c", "a"), ("b", "a"), ("a", "b")], start=start), ["flood", "direct", "direct"])
        self.assertEqual(known_after(N, [("c", "a"), ("b", "a"), ("a", "b")], start=start),
                         {"a": (0, 5), "b": (0, 5), "c": (0, None)})
        self.assertEqual(heard_at(N, [("c", "a"), ("b", "a"), ("a", "b")], 10, start=start), [0])
        self.assertEqual(kinds_of(N, F, start=AFTER_F), ["direct"] * 4)

    def test_a_sender_learns_nothing_about_the_target(self):
        self.assertEqual(known_after(N, [("a", "b")]), {"a": (None, None), "b": None, "c": None})
        self.assertEqual(kinds_of(N, [("a", "b"), ("a", "b"), ("c", "b"), ("c", "a")]), ["all", "all", "all", "direct"])

    def test_the_interval_grows_to_the_least_one_around_both(self):
        known = {"a": None, "b": (10, 10), "c": (0, 30), "d": None}
        self.assertEqual(known_after(EVEN, [("b", "c")], start=known)["b"], (10, 20))
        self.assertEqual(known_after(EVEN, [("b", "c")], start={**known, "b": (0, 10)})["b"], (0, 20))
        self.assertEqual(known_after(EVEN, [("b", "c")], start={**known, "b": (None, 30)})["b"], (None, 30))
        self.assertEqual(known_after(EVEN, [("b", "c")], start={**known, "b": (0, None)})["b"], (0, None))
        self.assertEqual(known_after(EVEN, [("d", "b")], start={**known, "d": (20, 30)})["d"], (10, None))
        self.assertEqual(known_after(EVEN, [("a", "b")], start={**known, "a": (None, 0)})["a"], (None, 10))
        self.assertEqual(known_after(EVEN, [("a", "b")], start={**known, "a": (0, None)})["a"], (None, None))
        self.assertEqual(known_after(EVEN, [("d", "b")], start={**known, "d": (None, 30)})["d"], (None, None))

    def test_frames_one_by_one_and_at_once(self):
        for line, state, frames in cases(200, seed=7):
            known, kinds, reaches = state, [], []
            for sender, target in frames:
                kinds.append(kind_of(line, known, sender, target))
                reaches.append(reach_of(line, known, sender, target))
                after = known_after(line, [(sender, target)], start=known)
                self.assertEqual({**after, sender: 0}, {**known, sender: 0})
                for at in range(min(line.values()) - 2, max(line.values()) + 3):
                    if known[sender] is not None and holds(known[sender], at) or holds(reaches[-1], at):
                        self.assertTrue(holds(after[sender], at))
                known = after
            self.assertEqual(kinds_of(line, frames, start=state), kinds)
            self.assertEqual(known_after(line, frames, start=state), known)
            for at in range(min(line.values()) - 2, max(line.values()) + 3):
                heard = [index for index, reach in enumerate(reaches) if holds(reach, at)]
                self.assertEqual(heard_at(line, frames, at, start=state), heard)

    def test_switches_that_learn_one_by_one(self):
        for line, _, frames in cases(150, seed=17):
            switches = Switches(line)
            for at, (sender, target) in enumerate(frames):
                reach = reach_of(line, known_after(line, frames[:at]), sender, target)
                self.assertEqual(switches.send(sender, target), [to for to in switches.positions if holds(reach, to)])
            for host, interval in known_after(line, frames).items():
                knowing = [at for at in switches.positions if interval is not None and holds(interval, at)]
                self.assertEqual(switches.knowing(host), knowing)

    def test_rounds(self):
        for line, state, frames in cases(200, seed=8):
            once = known_after(line, frames, start=state)
            self.assertEqual(known_after(line, frames, start=once), once)
            second = kinds_of(line, frames, start=once)
            self.assertEqual(kinds_of(line, frames * 3, start=state)[len(frames):], second * 2)

    def test_three_hundred_frames(self):
        self.assertEqual(kinds_of(N, F * 75), kinds_of(N, F) + ["direct"] * 296)
        self.assertEqual(known_after(N, F * 75), AFTER_F)
        self.assertEqual(heard_at(N, F * 75, 100), [0, 2])
        self.assertEqual(heard_at(N, F * 75, 5), list(range(300)))
        line = {host: at * 7 for at, host in enumerate(host_names(40))}
        frames = random_frames(random.Random(9), line, 300)
        self.assertEqual(len(kinds_of(line, frames)), 300)

    def test_positions_at_both_limits(self):
        line = {"a": -FAR, "b": FAR}
        frames = [("a", "b"), ("b", "a"), ("a", "b")]
        self.assertEqual(kinds_of(line, frames), ["all", "direct", "direct"])
        self.assertEqual(known_after(line, frames), {"a": (None, None), "b": (-FAR, FAR)})
        for position in [-FAR, FAR, 0]:
            self.assertEqual(heard_at(line, frames, position), [0, 1, 2])
        self.assertEqual(heard_at(N, F, FAR), [0, 2])
        self.assertEqual(heard_at(N, F, -FAR), [0])
        self.assertEqual(heard_at({"a": 0, "b": 1}, [("a", "b")], FAR, start={"a": None, "b": (1, None)}), [])

    def test_heard_at_the_ends_of_a_reach(self):
        self.assertEqual([heard_at(N, F, at) for at in [-1, 0, 4, 5, 6, 9, 10]],
                         [[0], [0, 1], [0, 1], [0, 1, 2, 3], [0, 2, 3], [0, 2, 3], [0, 2]])

    def test_keys_ascend(self):
        line = {"c": 0, "ab": 7, "b": -1, "a": 3, "aa": 20}
        start = {host: None for host in line}
        for frames in [[], [("b", "a"), ("ab", "b"), ("c", "aa")]]:
            for other in reordered(line):
                self.assertEqual(list(known_after(other, frames)), ["a", "aa", "ab", "b", "c"])
                self.assertEqual(list(known_after(other, frames, start=start)), ["a", "aa", "ab", "b", "c"])


class ErrorTest(unittest.TestCase):
    def test_line(self):
        for line in NO_LINES:
            with self.subTest(repr(line)[:50]):
                for function in [kind_of, reach_of, first_reached]:
                    self.assertEqual(raised(function, line, SILENT, "a", "b"), InvalidLine)
                    self.assertEqual(raised(function, line, None, None, None), InvalidLine)
                for function in [kinds_of, known_after]:
                    self.assertEqual(raised(function, line, F), InvalidLine)
                    self.assertEqual(raised(function, line, None, start=0), InvalidLine)
                self.assertEqual(raised(heard_at, line, F, 0), InvalidLine)
                self.assertEqual(raised(heard_at, line, None, None, start=0), InvalidLine)

    def test_state(self):
        for state in NO_STATES:
            with self.subTest(repr(state)[:50]):
                for function in [kind_of, reach_of, first_reached]:
                    self.assertEqual(raised(function, N, state, "a", "b"), InvalidState)
                    self.assertEqual(raised(function, N, state, None, None), InvalidState)

    def test_sender_and_target(self):
        for function in [kind_of, reach_of, first_reached]:
            for host in NO_HOSTS + ["d", "ab"]:
                with self.subTest(function.__name__, host=repr(host)[:50]):
                    self.assertEqual(raised(function, N, SILENT, host, "a"), InvalidHost)
                    self.assertEqual(raised(function, N, SILENT, "a", host), InvalidHost)
                    self.assertEqual(raised(function, N, SILENT, host, host), InvalidHost)
            for host in N:
                self.assertEqual(raised(function, N, SILENT, host, host), InvalidHost)
                self.assertEqual(raised(function, N, AFTER_F, host, host), InvalidHost)
            self.assertEqual(raised(function, {"a": 3}, {"a": None}, "a", "a"), InvalidHost)
            for sender, target in itertools.permutations(N, 2):
                self.assertEqual(raised(function, N, SILENT, sender, target), None)

    def test_frames(self):
        for frames in NO_FRAMES:
            with self.subTest(repr(frames)[:50]):
                for function in [kinds_of, known_after]:
                    self.assertEqual(raised(function, N, frames), InvalidFrames)
                    self.assertEqual(raised(function, N, frames, start=AFTER_F), InvalidFrames)
                    self.assertEqual(raised(function, N, frames, start=0), InvalidFrames)
                self.assertEqual(raised(heard_at, N, frames, 0), InvalidFrames)
                self.assertEqual(raised(heard_at, N, frames, None, start=0), InvalidFrames)

    def test_position(self):
        for position in NO_POSITIONS:
            with self.subTest(repr(position)[:50]):
                self.assertEqual(raised(heard_at, N, F, position), InvalidPosition)
                self.assertEqual(raised(heard_at, N, [], position), InvalidPosition)
                self.assertEqual(raised(heard_at, N, F, position, start=SILENT), InvalidPosition)
                self.assertEqual(raised(heard_at, N, F, position, start=0), InvalidPosition)
        for position in [FAR, -FAR, 0, 1]:
            self.assertEqual(raised(heard_at, N, F, position), None)

    def test_start(self):
        for start in NO_STATES:
            if start is not None:
                with self.subTest(repr(start)[:50]):
                    for frames in [F, []]:
                        self.assertEqual(raised(kinds_of, N, frames, start=start), InvalidState)
                        self.assertEqual(raised(known_after, N, frames, start=start), InvalidState)
                        self.assertEqual(raised(heard_at, N, frames, 0, start=start), InvalidState)

    def test_start_is_passed_by_name_only(self):
        self.assertEqual(raised(kinds_of, N, F, SILENT), TypeError)
        self.assertEqual(raised(known_after, N, F, SILENT), TypeError)
        self.assertEqual(raised(heard_at, N, F, 0, SILENT), TypeError)

    def test_an_error_changes_nothing(self):
        start = {"c": (5, 9), "a": None, "b": None}
        before = repr(start)
        self.assertEqual(raised(known_after, N, F + [("a", "d")], start=start), InvalidFrames)
        self.assertEqual(raised(heard_at, N, F, FAR + 1, start=start), InvalidPosition)
        self.assertEqual(repr(start), before)


class ConventionTest(unittest.TestCase):
    def test_functions_are_defined_in_this_file(self):
        for name in ["kind_of", "reach_of", "switches_reached", "kinds_of", "known_after", "heard_at"]:
            self.assertEqual(getattr(module, name).__module__, "floodline.frames")

    def test_arguments_do_not_change(self):
        line = {"b": 5, "c": 9, "a": 0}
        state = {"c": (5, 9), "a": (None, None), "b": None}
        for function in [kind_of, reach_of, first_reached, first_of]:
            self.assertTrue(unchanged(function, line, state, "c", "b"))
        for start in [None, state]:
            self.assertTrue(unchanged(kinds_of, line, list(F), start=start))
            self.assertTrue(unchanged(known_after, line, list(F), start=start))
            self.assertTrue(unchanged(known_after, line, [], start=start))
            self.assertTrue(unchanged(heard_at, line, list(F), 3, start=start))

    def test_results_are_new(self):
        start = {"a": None, "b": None, "c": None}
        for frames in [[], F]:
            first = known_after(N, frames, start=start)
            self.assertIsNot(first, start)
            kept = dict(first)
            first["a"] = "x"
            self.assertEqual(known_after(N, frames, start=start), kept)
            self.assertEqual(start, SILENT)
            for function, values in [(kinds_of, (N, frames)), (heard_at, (N, frames, 5))]:
                found = function(*values)
                self.assertIs(type(found), list)
                kept = list(found)
                found.append("x")
                self.assertEqual(function(*values), kept)
        self.assertIs(type(reach_of(N, SILENT, "a", "b")), tuple)
        self.assertIs(type(known_after(N, F)["b"]), tuple)

    def test_the_order_of_items_has_no_effect(self):
        for line, state, frames in cases(30, seed=10):
            for other in reordered(line):
                for known in reordered(state):
                    self.assertEqual(kinds_of(other, frames, start=known), kinds_of(line, frames, start=state))
                    self.assertEqual(repr(known_after(other, frames, start=known)),
                                     repr(known_after(line, frames, start=state)))
                    self.assertEqual(heard_at(other, frames, 1, start=known), heard_at(line, frames, 1, start=state))
                    for frame in frames:
                        self.assertEqual(reach_of(other, known, *frame), reach_of(line, state, *frame))
                        self.assertEqual(kind_of(other, known, *frame), kind_of(line, state, *frame))
                        self.assertEqual(first_of(other, known, *frame), first_of(line, state, *frame))

    def test_what_was_returned_may_be_passed_back(self):
        known = known_after(N, F)
        self.assertEqual(known_after(N, [], start=known), known)
        self.assertEqual(kinds_of(N, F, start=known), ["direct"] * 4)


if __name__ == "__main__":
    unittest.main()
