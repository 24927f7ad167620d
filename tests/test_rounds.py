"""Rounds: points [2], [3], [6], [7], [9](b) and the interface."""

import random
import unittest

from floodline import rounds
from floodline.errors import InvalidFrames, InvalidLine, InvalidNumber, InvalidPosition
from floodline.frames import heard_at, kinds_of, known_after
from floodline.rounds import kinds_in_round, load_after
from tests.samples import F, FAR, N, NO_POSITIONS, ODD_VALUES
from tests.samples import cases, host_names, raised, random_frames, reordered, unchanged
from tests.switches import Switches
from tests.test_frames import NO_FRAMES
from tests.test_lines import NO_LINES

# No number of a round and no number of rounds.
NO_NUMBERS = [-1, FAR + 1, -FAR, 10 ** 39] + [value for value in ODD_VALUES if repr(value) not in ("0", "1", repr(FAR))]

# The last frame is flooded in every round, as b is known from a to b only.
ALWAYS_FLOODED = [("a", "b"), ("b", "a"), ("c", "b")]


class KindsInRoundTest(unittest.TestCase):
    def test_examples(self):
        self.assertEqual(kinds_in_round(N, F, 1), ["direct"] * 4)
        self.assertEqual(kinds_in_round(N, F, 0), ["all", "direct", "flood", "direct"])

    def test_late_rounds(self):
        for number in [1, 2, 3, 100, FAR - 1, FAR]:
            with self.subTest(number):
                self.assertEqual(kinds_in_round(N, F, number), ["direct"] * 4)
                self.assertEqual(kinds_in_round(N, ALWAYS_FLOODED, number), ["direct", "direct", "flood"])
                self.assertEqual(kinds_in_round(N, [("a", "b")], number), ["all"])
        self.assertEqual(kinds_in_round(N, ALWAYS_FLOODED, 0), ["all", "direct", "flood"])

    def test_no_frames(self):
        for number in [0, 1, FAR]:
            self.assertEqual(kinds_in_round(N, [], number), [])
            self.assertEqual(kinds_in_round({"a": 3}, [], number), [])

    def test_three_hundred_frames(self):
        line = {host: at * 7 for at, host in enumerate(host_names(40))}
        frames = random_frames(random.Random(11), line, 300)
        once = known_after(line, frames)
        self.assertEqual(kinds_in_round(line, frames, 0), kinds_of(line, frames))
        for number in [1, 2, FAR]:
            self.assertEqual(kinds_in_round(line, frames, number), kinds_of(line, frames, start=once))

    def test_rounds_one_by_one(self):
        changed = 0
        for line, _, frames in cases(150, seed=12):
            sent = kinds_of(line, frames * 4)
            for number in range(4):
                expected = sent[number * len(frames):][:len(frames)]
                self.assertEqual(kinds_in_round(line, frames, number), expected)
            changed += kinds_in_round(line, frames, 0) != kinds_in_round(line, frames, 1)
        self.assertTrue(0 < changed < 150)

    def test_no_interval_changes_after_the_first_round_from_any_state(self):
        for line, state, frames in cases(150, seed=13):
            once = known_after(line, frames, start=state)
            self.assertEqual(known_after(line, frames * 3, start=state), once)
            second = kinds_of(line, frames, start=once)
            self.assertEqual(kinds_of(line, frames * 4, start=once), second * 4)


class LoadAfterTest(unittest.TestCase):
    def test_examples(self):
        self.assertEqual(load_after(N, F, FAR, 100), 2)
        self.assertEqual(load_after(N, F, FAR, 5), 4 * FAR)

    def test_no_rounds_and_few_rounds(self):
        for position, loads in [(100, [0, 2, 2, 2]), (5, [0, 4, 8, 12]), (-1, [0, 1, 1, 1]), (0, [0, 2, 4, 6]),
                                (7, [0, 3, 5, 7]), (9, [0, 3, 5, 7]), (10, [0, 2, 2, 2])]:
            with self.subTest(position):
                self.assertEqual([load_after(N, F, count, position) for count in range(4)], loads)

    def test_floods_in_every_round(self):
        self.assertEqual(load_after(N, ALWAYS_FLOODED, FAR, FAR), FAR + 1)
        self.assertEqual(load_after(N, ALWAYS_FLOODED, FAR, -FAR), 1)
        self.assertEqual(load_after(N, [("a", "b")], FAR, -FAR), FAR)
        self.assertEqual(load_after(N, [("a", "b")], FAR - 1, FAR), FAR - 1)

    def test_no_frames(self):
        for count in [0, 1, FAR]:
            self.assertEqual(load_after(N, [], count, 5), 0)
            self.assertEqual(load_after({"a": 3}, [], count, 3), 0)

    def test_three_hundred_frames(self):
        self.assertEqual(load_after(N, F * 75, FAR, 5), 300 * FAR)
        self.assertEqual(load_after(N, F * 75, FAR, 100), 2)
        line = {host: at * 7 for at, host in enumerate(host_names(40))}
        frames = random_frames(random.Random(14), line, 300)
        once = known_after(line, frames)
        for position in [-1, 0, 100, 273, 274]:
            first = len(heard_at(line, frames, position))
            later = len(heard_at(line, frames, position, start=once))
            self.assertEqual(load_after(line, frames, FAR, position), first + later * (FAR - 1))

    def test_positions_at_both_limits(self):
        line = {"a": -FAR, "b": FAR}
        frames = [("a", "b"), ("b", "a")]
        for position in [-FAR, -FAR + 1, 0, FAR]:
            self.assertEqual(load_after(line, frames, FAR, position), 2 * FAR)
        self.assertEqual(load_after(N, F, 2, FAR), 2)
        self.assertEqual(load_after(N, F, 2, -FAR), 1)

    def test_switch_by_switch(self):
        for line, _, frames in cases(100, seed=15):
            switches = Switches(line)
            loads = {at: 0 for at in switches.positions}
            for count in range(1, 5):
                for sender, target in frames:
                    for at in switches.send(sender, target):
                        loads[at] += 1
                for at, load in loads.items():
                    self.assertEqual(load_after(line, frames, count, at), load)


class ErrorTest(unittest.TestCase):
    def test_line(self):
        for line in NO_LINES:
            with self.subTest(repr(line)[:50]):
                self.assertEqual(raised(kinds_in_round, line, F, 1), InvalidLine)
                self.assertEqual(raised(kinds_in_round, line, None, -1), InvalidLine)
                self.assertEqual(raised(load_after, line, F, 1, 0), InvalidLine)
                self.assertEqual(raised(load_after, line, None, -1, None), InvalidLine)

    def test_frames(self):
        for frames in NO_FRAMES:
            with self.subTest(repr(frames)[:50]):
                self.assertEqual(raised(kinds_in_round, N, frames, 1), InvalidFrames)
                self.assertEqual(raised(kinds_in_round, N, frames, -1), InvalidFrames)
                self.assertEqual(raised(load_after, N, frames, 0, 0), InvalidFrames)
                self.assertEqual(raised(load_after, N, frames, -1, None), InvalidFrames)

    def test_number_and_count(self):
        for number in NO_NUMBERS:
            with self.subTest(repr(number)[:50]):
                for frames in [F, []]:
                    self.assertEqual(raised(kinds_in_round, N, frames, number), InvalidNumber)
                    self.assertEqual(raised(load_after, N, frames, number, 0), InvalidNumber)
                    self.assertEqual(raised(load_after, N, frames, number, None), InvalidNumber)
        for number in [0, 1, 2, FAR - 1, FAR]:
            self.assertEqual(raised(kinds_in_round, N, F, number), None)
            self.assertEqual(raised(load_after, N, F, number, 0), None)

    def test_position(self):
        for position in NO_POSITIONS:
            with self.subTest(repr(position)[:50]):
                for count in [0, 1, FAR]:
                    self.assertEqual(raised(load_after, N, F, count, position), InvalidPosition)
                    self.assertEqual(raised(load_after, N, [], count, position), InvalidPosition)


class ConventionTest(unittest.TestCase):
    def test_functions_are_defined_in_this_file(self):
        for name in ["kinds_in_round", "load_after"]:
            self.assertEqual(getattr(rounds, name).__module__, "floodline.rounds")

    def test_arguments_do_not_change_and_results_are_new(self):
        line = {"b": 5, "c": 9, "a": 0}
        for number in [0, 1, FAR]:
            self.assertTrue(unchanged(kinds_in_round, line, list(F), number))
            self.assertTrue(unchanged(load_after, line, list(F), number, 5))
            found = kinds_in_round(N, F, number)
            self.assertIs(type(found), list)
            kept = list(found)
            found.append("x")
            self.assertEqual(kinds_in_round(N, F, number), kept)

    def test_the_order_of_items_has_no_effect(self):
        for line, _, frames in cases(30, seed=16):
            for other in reordered(line):
                for number in [0, 1, 5]:
                    self.assertEqual(kinds_in_round(other, frames, number), kinds_in_round(line, frames, number))
                    self.assertEqual(load_after(other, frames, number, 2), load_after(line, frames, number, 2))


if __name__ == "__main__":
    unittest.main()
