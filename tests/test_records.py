"""Records, needs and faults: points [2], [3], [4], [11], [12], [14], [15] and the interface."""

import itertools
import unittest

from floodline import records
from floodline.errors import InvalidFrames, InvalidLine, InvalidPorts, InvalidRecord
from floodline.records import fault_in, is_record, needs_of, record_of, shows_fault
from tests import recordings
from tests.recordings import EMPTY, H, KINDS, NO_PORTS_OF_R, NO_RECORDS, PAIR, R, RING
from tests.recordings import any_cases, is_ring_by_hand, lone_faults, long_case, needs_by_hand, possible_cases
from tests.recordings import record_by_hand, recorded
from tests.samples import F, N, ODD_VALUES, Pair, Row, host_names, raised, reordered, unchanged
from tests.test_frames import NO_FRAMES
from tests.test_lines import NO_LINES

FIVE = {"a": 0, "b": 5, "c": 9, "d": 12, "e": 20}
NOTHING = {host: [] for host in FIVE}


class IsRecordTest(unittest.TestCase):
    def test_records(self):
        for record in [R, H, EMPTY, {**EMPTY, "c": [("a", "flood"), ("b", "direct"), ("a", "all")]}]:
            self.assertIs(is_record(N, record), True)
        self.assertIs(is_record({"a": 3}, {"a": []}), True)
        self.assertIs(is_record(PAIR, RING), True)

    def test_each_target_and_kind(self):
        for host, target, kind in itertools.product(N, N, KINDS):
            self.assertIs(is_record(N, {**EMPTY, host: [(target, kind)]}), host != target)
        self.assertIs(is_record({"a": 3}, {"a": [("a", "all")]}), False)

    def test_numbers_of_items(self):
        for many, expected in [(0, True), (1, True), (199, True), (200, True), (201, False), (400, False)]:
            with self.subTest(many):
                self.assertIs(is_record(N, {**EMPTY, "a": [("b", "all")] * many}), expected)
                self.assertIs(is_record(N, {**EMPTY, "c": [("b", "all")] * many}), expected)

    def test_items_of_all_hosts_count(self):
        for many, expected in [((100, 0, 100), True), ((66, 67, 67), True), ((67, 67, 67), False), ((1, 0, 200), False),
                               ((100, 100, 1), False)]:
            record = {host: [("c" if host == "b" else "b", "all")] * number for host, number in zip(N, many)}
            self.assertIs(is_record(N, record), expected)
        line = {host: at for at, host in enumerate(host_names(40))}
        record = {host: [("ab" if host == "aa" else "aa", "flood")] * 5 for host in line}
        self.assertIs(is_record(line, record), True)
        record["aa"].append(("ab", "direct"))
        self.assertIs(is_record(line, record), False)

    def test_what_is_no_record(self):
        for value in NO_RECORDS:
            with self.subTest(repr(value)[:60]):
                self.assertIs(is_record(N, value), False)

    def test_a_wrong_item_anywhere(self):
        for wrong in [["b", "all"], ("a", "all"), ("d", "all"), ("b", "none"), ("b",), Pair(("b", "all")), None]:
            for at in [0, 7, 19]:
                items = [("b", "all")] * 20
                items[at] = wrong
                self.assertIs(is_record(N, {**EMPTY, "a": items}), False)

    def test_the_line_is_checked_first(self):
        for line in NO_LINES:
            for value in [R, {}, None]:
                self.assertEqual(raised(is_record, line, value), InvalidLine)


class RecordOfTest(unittest.TestCase):
    def test_examples(self):
        self.assertEqual(record_of(N, F), R)
        self.assertEqual(record_of(N, []), EMPTY)
        self.assertEqual(record_of({"a": 3}, []), {"a": []})

    def test_keys_ascend(self):
        line = {"c": 0, "ab": 7, "b": -1, "a": 3, "aa": 20}
        for frames in [[], [("b", "a"), ("ab", "b"), ("c", "aa")]]:
            for other in reordered(line):
                self.assertEqual(list(record_of(other, frames)), ["a", "aa", "ab", "b", "c"])

    def test_all_frames_with_their_kinds(self):
        for line, frames, record, _ in possible_cases(100, 30, seed=31):
            found = record_of(line, frames)
            self.assertEqual(found, record_by_hand(line, frames))
            self.assertIs(is_record(line, found), True)
            self.assertIs(fault_in(line, found), None)
            self.assertEqual(found, record)

    def test_numbers_of_frames(self):
        for many, expected in [(199, None), (200, None), (201, InvalidFrames), (300, InvalidFrames),
                               (301, InvalidFrames)]:
            self.assertEqual(raised(record_of, N, (F * 76)[:many]), expected)
        self.assertEqual(sum(map(len, record_of(N, F * 50).values())), 200)

    def test_errors(self):
        for line in NO_LINES:
            self.assertEqual(raised(record_of, line, F), InvalidLine)
            self.assertEqual(raised(record_of, line, F * 60), InvalidLine)
            self.assertEqual(raised(record_of, line, None), InvalidLine)
        for frames in NO_FRAMES + [F * 60 + [None]]:
            self.assertEqual(raised(record_of, N, frames), InvalidFrames)


class NeedsTest(unittest.TestCase):
    def test_examples(self):
        self.assertEqual(needs_of(N, R), [(("a", 0), ("b", 0)), (("b", 0), ("b", 1)), (("b", 0), ("c", 0)),
                                          (("c", 0), ("b", 1))])
        self.assertEqual(needs_of(N, EMPTY), [])
        self.assertEqual(needs_of({"a": 3}, {"a": []}), [])

    def test_a_frame_and_the_next_one(self):
        record = {**EMPTY, "a": [("b", "all"), ("c", "all"), ("b", "all")]}
        self.assertEqual(needs_of(N, record), [(("a", 0), ("a", 1)), (("a", 1), ("a", 2))])
        record = {**EMPTY, "a": [("b", "all")] * 12}
        self.assertEqual(needs_of(N, record), [(("a", at), ("a", at + 1)) for at in range(11)])

    def test_all_and_the_first_frame_of_the_target(self):
        record = {**EMPTY, "a": [("b", "all")], "b": [("c", "all"), ("a", "all")]}
        self.assertEqual(needs_of(N, record), [(("a", 0), ("b", 0)), (("b", 0), ("b", 1)), (("b", 1), ("a", 0))])
        self.assertEqual(needs_of(N, {**EMPTY, "a": [("b", "all")], "c": [("b", "all")]}), [])

    def test_flood_behind_the_first_frame_and_before_the_opening_one(self):
        record = {**NOTHING, "c": [("d", "direct"), ("b", "direct"), ("a", "direct")], "b": [("c", "flood")]}
        self.assertEqual(needs_of(FIVE, record), [(("b", 0), ("c", 1)), (("c", 0), ("b", 0)), (("c", 0), ("c", 1)),
                                                  (("c", 1), ("c", 2))])
        record = {**NOTHING, "c": [("d", "direct"), ("d", "flood")], "b": [("c", "flood")]}
        self.assertEqual(needs_of(FIVE, record), [(("b", 0), ("c", 1)), (("c", 0), ("b", 0)), (("c", 0), ("c", 1))])
        record = {**NOTHING, "c": [("d", "direct"), ("e", "direct")], "b": [("c", "flood")]}
        self.assertEqual(needs_of(FIVE, record), [(("c", 0), ("b", 0)), (("c", 0), ("c", 1))])
        self.assertEqual(needs_of(FIVE, {**NOTHING, "b": [("c", "flood")]}), [])

    def test_direct_behind_the_opening_frame(self):
        record = {**NOTHING, "c": [("d", "direct"), ("b", "flood"), ("b", "direct")], "b": [("c", "direct")]}
        self.assertEqual([need for need in needs_of(FIVE, record) if need[1] == ("b", 0)], [(("c", 1), ("b", 0))])
        self.assertEqual(needs_of(FIVE, {**NOTHING, "b": [("c", "direct")]}), [])
        record = {**NOTHING, "c": [("d", "direct"), ("e", "direct")], "b": [("c", "direct")]}
        self.assertEqual(needs_of(FIVE, record), [(("c", 0), ("c", 1))])

    def test_the_opening_frame_reaches_the_position_itself(self):
        for item, at, opens in [(("b", "direct"), "b", True), (("b", "direct"), "a", False),
                                (("a", "direct"), "b", True), (("b", "flood"), "b", True),
                                (("b", "flood"), "a", False), (("b", "flood"), "e", True),
                                (("d", "flood"), "a", True), (("d", "flood"), "d", True), (("d", "flood"), "e", False),
                                (("e", "all"), "a", True), (("a", "all"), "e", True), (("d", "direct"), "d", True),
                                (("d", "direct"), "b", False)]:
            with self.subTest(item, at=at):
                record = {**NOTHING, "c": [item], at: [("c", "direct")]}
                expected = [(("c", 0), (at, 0))] if opens else []
                self.assertEqual([need for need in needs_of(FIVE, record) if need[1] == (at, 0)], expected)

    def test_no_duplicates(self):
        self.assertEqual(needs_of(PAIR, RING), [(("a", 0), ("b", 0)), (("b", 0), ("a", 0))])
        record = {"a": [("b", "flood")], "b": [("a", "flood")]}
        self.assertEqual(needs_of(PAIR, record), [(("a", 0), ("b", 0)), (("b", 0), ("a", 0))])
        record = {"a": [("b", "all")], "b": [("a", "direct")]}
        self.assertEqual(needs_of(PAIR, record), [(("a", 0), ("b", 0))])

    def test_ascending_as_tuples(self):
        line = {"b": 0, "a": 1, "aa": 2}
        record = {"aa": [("b", "all")] * 12, "b": [("a", "direct")] * 2, "a": [("b", "all")] * 3}
        found = needs_of(line, record)
        self.assertEqual(found, sorted(found))
        self.assertEqual(found, needs_by_hand(line, record))
        self.assertEqual(found[0], (("a", 0), ("a", 1)))

    def test_needs_by_hand(self):
        for line, record, ports in any_cases(300, 9, seed=32):
            self.assertEqual(needs_of(line, record), needs_by_hand(line, record))
            self.assertEqual(needs_of(line, record, ports=ports), needs_by_hand(line, record, ports))

    def test_two_hundred_items(self):
        line, _, record, ports = long_case()
        self.assertEqual(needs_of(line, record), needs_by_hand(line, record))
        self.assertEqual(needs_of(line, record, ports=ports), needs_by_hand(line, record, ports))


class FaultInTest(unittest.TestCase):
    def test_examples(self):
        self.assertIs(fault_in(N, R), None)
        self.assertEqual(fault_in(N, {"a": [("b", "flood")], "b": [], "c": []}), ("silent", ("a", 0)))

    def test_silent(self):
        record = {**EMPTY, "a": [("b", "all"), ("c", "flood")], "b": [("a", "direct")]}
        self.assertEqual(fault_in(N, record), ("silent", ("a", 1)))
        self.assertIs(fault_in(N, {**record, "c": [("b", "flood")]}), None)

    def test_unknown(self):
        self.assertEqual(fault_in(N, {**EMPTY, "a": [("b", "direct")]}), ("unknown", ("a", 0)))
        record = {"a": [("c", "direct")], "b": [("c", "all")], "c": [("b", "direct")]}
        self.assertEqual(fault_in(N, record), ("unknown", ("a", 0)))
        self.assertIs(fault_in(N, {**record, "c": [("b", "direct"), ("a", "all")]}), None)
        record = {**EMPTY, "a": [("b", "all")], "b": [("a", "direct")], "c": [("b", "direct")]}
        self.assertEqual(fault_in(N, record), ("unknown", ("c", 0)))

    def test_the_least_frame_of_the_first_two_forms(self):
        record = {"a": [("b", "all"), ("c", "direct"), ("c", "flood")], "b": [("c", "flood")], "c": []}
        self.assertEqual(fault_in(N, record), ("unknown", ("a", 1)))
        record = {"c": [("b", "direct")], "a": [("b", "all")] * 10 + [("b", "flood")], "b": []}
        self.assertEqual(fault_in(N, record), ("silent", ("a", 10)))
        record = {"c": [("b", "direct")], "a": [("b", "all")], "b": []}
        self.assertEqual(fault_in(N, record), ("unknown", ("c", 0)))

    def test_single_frames_stand_before_rings(self):
        record = {"a": [("b", "flood")], "b": [("a", "flood")], "c": [("a", "flood"), ("b", "flood")]}
        self.assertEqual(fault_in(N, record)[0], "ring")
        record = {"a": [("b", "flood")], "b": [("a", "flood"), ("c", "flood")], "c": []}
        self.assertEqual(fault_in(N, record), ("silent", ("b", 1)))

    def test_ring_of_needs(self):
        for record in [{"a": [("b", "flood")], "b": [("a", "flood")]}, {"a": [("b", "all")], "b": [("a", "all")]}]:
            kind, frames = fault_in(PAIR, record)
            self.assertEqual(kind, "ring")
            self.assertIs(type(frames), list)
            self.assertEqual(sorted(frames), [("a", 0), ("b", 0)])

    def test_ring_of_three(self):
        line = {"a": 0, "b": 1, "c": 2}
        record = {"a": [("b", "all")], "b": [("c", "all")], "c": [("a", "all")]}
        kind, frames = fault_in(line, record)
        self.assertEqual(kind, "ring")
        self.assertIn(frames, [[("a", 0), ("b", 0), ("c", 0)], [("b", 0), ("c", 0), ("a", 0)],
                               [("c", 0), ("a", 0), ("b", 0)]])

    def test_a_ring_behind_frames_that_can_be_sent(self):
        record = {"a": [("b", "all"), ("c", "all"), ("b", "flood")], "b": [("a", "direct"), ("c", "all")],
                  "c": [("b", "all")]}
        kind, frames = fault_in(N, record)
        self.assertEqual(kind, "ring")
        self.assertTrue(is_ring_by_hand(N, record, None, frames))

    def test_faults_of_any_records(self):
        kinds = {"none": 0, "silent": 0, "unknown": 0, "ring": 0}
        for line, record, ports in any_cases(800, 8, seed=33):
            for logs in [None, ports]:
                fault = fault_in(line, record, ports=logs)
                kinds["none" if fault is None else fault[0]] += 1
                if lone_faults(line, record):
                    self.assertEqual(fault, lone_faults(line, record)[0])
                elif fault is not None:
                    self.assert_ring(line, record, logs, fault)
        self.assertGreater(min(kinds.values()), 30)

    def assert_ring(self, line, record, ports, fault):
        self.assertIs(type(fault), tuple)
        self.assertEqual(fault[0], "ring")
        self.assertIs(type(fault[1]), list)
        self.assertTrue(set(fault[1]) <= set(recorded(record)))
        self.assertEqual(len(set(fault[1])), len(fault[1]))
        self.assertTrue(is_ring_by_hand(line, record, ports, fault[1]))
        self.assertIs(shows_fault(line, record, fault, ports=ports), True)

    def test_two_hundred_items(self):
        line, _, record, ports = long_case()
        self.assertIs(fault_in(line, record), None)
        self.assertIs(fault_in(line, record, ports=ports), None)
        rings = 0
        for host, items in record.items():
            changed = {**record, host: items[:-1] + [(items[-1][0], "all")]}
            fault = fault_in(line, changed)
            if fault is not None and fault[0] == "ring":
                self.assert_ring(line, changed, None, fault)
                rings += 1
        self.assertGreater(rings, 5)


class ShowsFaultTest(unittest.TestCase):
    def test_examples(self):
        self.assertIs(shows_fault(PAIR, RING, ("ring", [("a", 0), ("b", 0)])), True)
        self.assertIs(shows_fault(PAIR, RING, ("unknown", ("a", 0))), False)

    def test_one_of_several_faults(self):
        record = {"a": [("b", "flood"), ("c", "direct"), ("c", "flood")], "b": [("a", "flood")], "c": []}
        for value, expected in [(("unknown", ("a", 1)), True), (("silent", ("a", 2)), True),
                                (("silent", ("a", 1)), False), (("unknown", ("a", 2)), False),
                                (("silent", ("a", 0)), False), (("unknown", ("a", 0)), False),
                                (("ring", [("a", 0), ("b", 0)]), True), (("ring", [("b", 0), ("a", 0)]), True),
                                (("ring", [("a", 1), ("b", 0)]), False), (("ring", [("a", 0), ("a", 1)]), False)]:
            with self.subTest(value):
                self.assertIs(shows_fault(N, record, value), expected)

    def test_rings_through_lists_at_any_distance(self):
        record = {"a": [("c", "all"), ("c", "all"), ("c", "all"), ("b", "all")],
                  "b": [("a", "all"), ("c", "all"), ("a", "direct")], "c": []}
        for frames, expected in [([("a", 3), ("b", 0), ("a", 0)], True), ([("b", 0), ("a", 0), ("a", 3)], True),
                                 ([("a", 0), ("a", 1), ("a", 3), ("b", 0)], True),
                                 ([("a", 0), ("a", 1), ("a", 2), ("a", 3), ("b", 0)], True),
                                 ([("a", 0), ("a", 2), ("a", 1), ("a", 3), ("b", 0)], False),
                                 ([("a", 3), ("a", 0), ("b", 0)], False), ([("b", 0), ("a", 3), ("a", 0)], False),
                                 ([("b", 0), ("a", 0)], False), ([("a", 3), ("b", 0)], False),
                                 ([("a", 1), ("a", 3), ("b", 0)], False), ([("a", 0), ("a", 3), ("b", 2)], False),
                                 ([("a", 0), ("a", 3), ("b", 1)], False)]:
            with self.subTest(frames):
                self.assertIs(shows_fault(N, record, ("ring", frames)), expected)

    def test_all_rings_of_up_to_four_frames(self):
        shown = [0, 0]
        for line, record, ports in any_cases(40, 5, seed=34):
            for many in range(2, 5):
                for frames in map(list, itertools.permutations(recorded(record), many)):
                    expected = is_ring_by_hand(line, record, ports, frames)
                    self.assertIs(shows_fault(line, record, ("ring", frames), ports=ports), expected)
                    shown[expected] += 1
        self.assertGreater(min(shown), 50)

    def test_all_faults_of_single_frames(self):
        for line, record, ports in any_cases(100, 8, seed=35):
            faults = lone_faults(line, record)
            for word, frame in itertools.product(["silent", "unknown", "ring", "none"], recorded(record)):
                expected = (word, frame) in faults
                self.assertIs(shows_fault(line, record, (word, frame), ports=ports), expected)
                self.assertIs(shows_fault(line, record, (word, [frame])), False)

    def test_rings_that_are_none(self):
        record = {"a": [("b", "flood")], "b": [("a", "flood")]}
        one, other = ("a", 0), ("b", 0)
        self.assertIs(shows_fault(PAIR, record, ("ring", [one, other])), True)
        for frames in [[], [one], [one, one], [one, other, one], [one, other, one, other], [one, other] * 200,
                       (one, other), Row([one, other]), [one, list(other)], [one, Pair(other)], [one, ("b", 1)],
                       [one, ("b", False)], [one, None], [one, "b"], [one, ("b",)], [one, ("b", 0, 0)], [one, []],
                       [one, ("b", [])], {one: other}, {one, other}, one, None, "ab", 0, [[one, other]],
                       [one, other, 1]]:
            with self.subTest(repr(frames)[:60]):
                self.assertIs(shows_fault(PAIR, record, ("ring", frames)), False)

    def test_values_of_other_kinds(self):
        record = {**EMPTY, "a": [("b", "flood"), ("c", "direct")]}
        fault = ("silent", ("a", 0))
        self.assertIs(shows_fault(N, record, fault), True)
        self.assertIs(shows_fault(N, record, ("unknown", ("a", 1))), True)
        for value in ODD_VALUES + [list(fault), Pair(fault), fault + (0,), fault[:1], ("silent", ["a", 0]),
                                   ("silent", Pair(("a", 0))), ("silent", ("a", False)), ("silent", ("a", 2)),
                                   ("silent", ("a", -2)), ("silent", ("d", 0)), ("silent", None), ("silent", "a"),
                                   ("silent", ("a", 0, 0)), ("silent", ("a",)), ("silent", ([], 0)),
                                   ("Silent", ("a", 0)),
                                   ("silent ", ("a", 0)), (None, ("a", 0)), (b"silent", ("a", 0)), ([], ("a", 0)),
                                   ({}, ("a", 0)), (0, ("a", 0)), (("a", 0), "silent"), ("unknown", ("a", True)),
                                   {"silent": ("a", 0)}, "silent", ("silent", [("a", 0)]), [fault]]:
            with self.subTest(repr(value)[:60]):
                self.assertIs(shows_fault(N, record, value), False)

    def test_a_possible_record_has_no_fault(self):
        for line, _, record, ports in possible_cases(40, 5, seed=36):
            frames = recorded(record)
            for many in [2, 3]:
                for ring in itertools.permutations(frames, many):
                    self.assertIs(shows_fault(line, record, ("ring", list(ring)), ports=ports), False)
            for word, frame in itertools.product(["silent", "unknown"], frames):
                self.assertIs(shows_fault(line, record, (word, frame), ports=ports), False)

    def test_a_ring_of_two_hundred_frames(self):
        record = {"a": [("c", "all")] * 99 + [("b", "all")], "b": [("c", "all")] * 99 + [("a", "all")], "c": []}
        ring = [("a", at) for at in range(100)] + [("b", at) for at in range(100)]
        self.assertIs(shows_fault(N, record, ("ring", ring)), True)
        self.assertIs(shows_fault(N, record, ("ring", ring[50:] + ring[:50])), True)
        self.assertIs(shows_fault(N, record, ("ring", ring[::-1])), False)
        self.assertIs(shows_fault(N, record, ("ring", ring[:-1])), False)
        self.assertIs(shows_fault(N, record, ("ring", [ring[0], ring[99], ring[100], ring[199]])), True)
        self.assertEqual(fault_in(N, record)[0], "ring")


class ErrorTest(unittest.TestCase):
    def calls(self):
        return [(needs_of, ()), (fault_in, ()), (shows_fault, (("silent", ("a", 0)),)), (shows_fault, (None,))]

    def test_line(self):
        for line in NO_LINES:
            for function, rest in self.calls():
                self.assertEqual(raised(function, line, R, *rest), InvalidLine)
                self.assertEqual(raised(function, line, None, *rest, ports=0), InvalidLine)

    def test_record(self):
        for record in NO_RECORDS:
            with self.subTest(repr(record)[:60]):
                for function, rest in self.calls():
                    self.assertEqual(raised(function, N, record, *rest), InvalidRecord)
                    self.assertEqual(raised(function, N, record, *rest, ports=0), InvalidRecord)
                    self.assertEqual(raised(function, N, record, *rest, ports={}), InvalidRecord)

    def test_ports(self):
        for ports in NO_PORTS_OF_R:
            with self.subTest(repr(ports)[:60]):
                for function, rest in self.calls():
                    self.assertEqual(raised(function, N, R, *rest, ports=ports), InvalidPorts)

    def test_ports_are_passed_by_name_only(self):
        for function, rest in self.calls():
            self.assertEqual(raised(function, N, R, *rest, {}), TypeError)


class ConventionTest(unittest.TestCase):
    def test_functions_are_defined_in_this_file(self):
        for name in ["is_record", "record_of", "needs_of", "fault_in", "shows_fault"]:
            self.assertEqual(getattr(records, name).__module__, "floodline.records")

    def test_arguments_do_not_change(self):
        line, _, record, ports = possible_cases(20, 6, seed=37)[-1]
        ring = ("ring", recorded(record))
        for logs in [None, {}, ports]:
            self.assertTrue(unchanged(needs_of, line, record, ports=logs))
            self.assertTrue(unchanged(fault_in, line, record, ports=logs))
            self.assertTrue(unchanged(shows_fault, line, record, ring, ports=logs))
        self.assertTrue(unchanged(fault_in, PAIR, {"b": [("a", "flood")], "a": [("b", "flood")]}))
        self.assertTrue(unchanged(is_record, line, record))
        self.assertTrue(unchanged(record_of, N, list(F)))

    def test_results_are_new(self):
        first = record_of(N, F)
        first["a"].append("x")
        first["b"] = None
        self.assertEqual(record_of(N, F), R)
        for ports in [None, {}, {0: [("a", 0), ("b", 0)]}]:
            found = needs_of(N, R, ports=ports)
            kept = list(found)
            self.assertIs(type(found), list)
            found.append("x")
            self.assertEqual(needs_of(N, R, ports=ports), kept)
        record = {"a": [("b", "flood")], "b": [("a", "flood")]}
        fault_in(PAIR, record)[1].append("x")
        self.assertEqual(sorted(fault_in(PAIR, record)[1]), [("a", 0), ("b", 0)])

    def test_the_order_of_items_has_no_effect(self):
        for line, record, ports in any_cases(60, 6, seed=38):
            for other in reordered(line):
                for same in reordered(record):
                    for logs in reordered(ports):
                        self.assertIs(is_record(other, same), True)
                        self.assertEqual(needs_of(other, same, ports=logs), needs_of(line, record, ports=ports))
                        self.assertEqual(fault_in(other, same, ports=logs), fault_in(line, record, ports=ports))
            frames = [("a", "b"), ("b", "a")]
            if {"a", "b"} <= set(line):
                self.assertEqual(record_of(line, frames), record_of(reordered(line)[0], frames))

    def test_the_samples_are_what_the_document_says(self):
        self.assertEqual(record_by_hand(N, F), R)
        self.assertEqual(recordings.order_of(F), [("a", 0), ("b", 0), ("c", 0), ("b", 1)])


if __name__ == "__main__":
    unittest.main()
