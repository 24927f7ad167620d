"""Ports of records: points [2], [13] and [14], for all functions that take them."""

import itertools
import random
import unittest

from floodline.errors import Contradiction, InvalidPorts
from floodline.histories import count_histories, is_history, least_history, nth_history, places_of
from floodline.histories import reversed_history, surely_before
from floodline.records import fault_in, needs_of, shows_fault
from tests.recordings import EMPTY, H, NO_PORTS_OF_R, R
from tests.recordings import any_cases, log_of, long_case, needs_by_hand, possible_cases, random_log, recorded
from tests.recordings import reaches, tried_histories
from tests.samples import F, FAR, N, raised

# Each function with what it takes beside the line, the record R and the ports.
FUNCTIONS = [(needs_of, ()), (fault_in, ()), (shows_fault, (None,)), (is_history, (None,)), (least_history, ()),
             (surely_before, (("a", 0), ("b", 0))), (places_of, (("a", 0),)),
             (reversed_history, (("a", 0), ("b", 0))), (count_histories, ()), (nth_history, (0,))]


def valid(line, record, ports):
    """Return whether ports are taken."""
    error = raised(needs_of, line, record, ports=ports)
    assert error in (None, InvalidPorts)
    return error is None


class PortsTest(unittest.TestCase):
    def test_no_ports(self):
        for function, rest in FUNCTIONS:
            self.assertEqual(function(N, R, *rest, ports=None), function(N, R, *rest))
            self.assertEqual(function(N, R, *rest, ports={}), function(N, R, *rest))

    def test_numbers_of_items(self):
        for many, expected in [(0, True), (1, True), (11, True), (12, True), (13, False), (100, False)]:
            with self.subTest(many):
                self.assertIs(valid(N, R, {at: log_of(N, F, at) for at in range(many)}), expected)
                self.assertIs(valid(N, EMPTY, {at: [] for at in range(many)}), expected)

    def test_limits_of_positions(self):
        for position, expected in [(FAR, True), (-FAR, True), (FAR + 1, False), (-FAR - 1, False), (0, True),
                                   (10 ** 39, False), (-(10 ** 39), False)]:
            log = [("a", 0), ("c", 0)] if position > 9 else [("a", 0)]
            log = log if position else log_of(N, F, 0)
            with self.subTest(position):
                self.assertIs(valid(N, R, {position: log}), expected)
                self.assertIs(valid(N, EMPTY, {position: []}), expected)
                self.assertIs(valid(N, R, {0: log_of(N, F, 0), position: log}), expected)

    def test_what_is_no_ports(self):
        for ports in NO_PORTS_OF_R:
            for function, rest in FUNCTIONS:
                with self.subTest(repr(ports)[:60], function=function.__name__):
                    self.assertEqual(raised(function, N, R, *rest, ports=ports), InvalidPorts)

    def test_a_log_has_what_reaches_the_position(self):
        self.assertIs(valid(N, R, {0: [("a", 0), ("b", 0)]}), True)
        self.assertIs(valid(N, R, {5: [("a", 0), ("b", 0), ("c", 0), ("b", 1)]}), True)
        self.assertIs(valid(N, R, {6: [("a", 0), ("c", 0), ("b", 1)]}), True)
        self.assertIs(valid(N, R, {10: [("a", 0), ("c", 0)]}), True)
        self.assertIs(valid(N, R, {-1: [("a", 0)]}), True)
        self.assertIs(valid(N, R, {-1: []}), False)
        self.assertIs(valid(N, H, {7: [("a", 0), ("a", 1)]}), True)
        self.assertIs(valid(N, H, {7: [("a", 0), ("a", 1), ("b", 0)]}), False)
        self.assertIs(valid(N, {**EMPTY, "a": [("b", "direct")]}, {7: []}), True)

    def test_the_order_between_hosts_is_free(self):
        order = [("a", 0), ("b", 0), ("c", 0), ("b", 1)]
        for log in map(list, itertools.permutations(order)):
            expected = log.index(("b", 0)) < log.index(("b", 1))
            self.assertIs(valid(N, R, {5: log}), expected)
            self.assertIs(valid(N, R, {0: order[:2], 5: log}), expected)

    def test_logs_of_ten_and_more_frames(self):
        record = {**EMPTY, "a": [("b", "all")] * 12, "c": [("b", "all")] * 3}
        log = recorded(record)
        self.assertIs(valid(N, record, {3: log}), True)
        self.assertIs(valid(N, record, {3: log[12:] + log[:12]}), True)
        self.assertIs(valid(N, record, {3: log[:10] + [log[11], log[10]] + log[12:]}), False)
        self.assertIs(valid(N, record, {3: [log[10]] + log[:10] + log[11:]}), False)

    def test_a_log_with_one_wrong_frame(self):
        chance = random.Random(41)
        for line, frames, record, _ in possible_cases(60, 8, seed=42):
            for position in [min(line.values()) - 1, max(line.values()), list(line.values())[0]]:
                log = random_log(chance, line, record, position)
                self.assertIs(valid(line, record, {position: log}), True)
                for at in range(len(log)):
                    self.assertIs(valid(line, record, {position: log[:at] + log[at + 1:]}), False)
                    self.assertIs(valid(line, record, {position: log[:at] + [log[at]] + log[at:]}), False)
                    self.assertIs(valid(line, record, {position: log[:at] + [log[0]] + log[at + 1:]}), at == 0)
                for frame in recorded(record):
                    if not reaches(line, record, frame, position):
                        self.assertIs(valid(line, record, {position: log + [frame]}), False)

    def test_frames_of_one_host_in_a_wrong_order(self):
        for line, record, _ in any_cases(60, 8, seed=43):
            position = list(line.values())[0]
            log = [frame for frame in recorded(record) if reaches(line, record, frame, position)]
            for at in range(len(log) - 1):
                swapped = log[:at] + [log[at + 1], log[at]] + log[at + 2:]
                self.assertIs(valid(line, record, {position: swapped}), log[at][0] != log[at + 1][0])

    def test_a_log_of_each_listener(self):
        for line, frames, record, _ in possible_cases(60, 12, seed=44):
            places = list(range(min(line.values()) - 2, max(line.values()) + 3))[:12]
            self.assertIs(valid(line, record, {at: log_of(line, frames, at) for at in places}), True)


class NeedsOfLogsTest(unittest.TestCase):
    def test_a_frame_and_the_next_one(self):
        log = [("a", 0), ("c", 0), ("b", 0), ("b", 1)]
        needs = needs_of(N, R, ports={5: log})
        self.assertEqual(set(needs) - set(needs_of(N, R)), {(("a", 0), ("c", 0)), (("c", 0), ("b", 0))})
        self.assertEqual(needs, sorted(set(needs)))

    def test_no_duplicates(self):
        log = [("a", 0), ("b", 0), ("c", 0), ("b", 1)]
        self.assertEqual(needs_of(N, R, ports={5: log}), needs_of(N, R))
        self.assertEqual(needs_of(N, R, ports={5: log, 0: log[:2]}), needs_of(N, R))
        needs = needs_of(N, H, ports={at: [("a", 0), ("b", 0), ("a", 1)] for at in range(5)})
        self.assertEqual(needs, [(("a", 0), ("a", 1)), (("a", 0), ("b", 0)), (("b", 0), ("a", 1))])

    def test_logs_of_no_and_one_frame(self):
        self.assertEqual(needs_of(N, R, ports={-1: [("a", 0)]}), needs_of(N, R))
        self.assertEqual(needs_of(N, EMPTY, ports={5: []}), [])

    def test_only_neighbours_in_the_log(self):
        record = {**EMPTY, "a": [("b", "all")], "b": [("c", "all")], "c": [("a", "flood")]}
        log = [("b", 0), ("c", 0), ("a", 0)]
        self.assertIn((("b", 0), ("c", 0)), needs_of(N, record, ports={1: log}))
        self.assertNotIn((("b", 0), ("a", 0)), needs_of(N, record, ports={1: log}))

    def test_needs_by_hand(self):
        added = 0
        for line, record, ports in any_cases(200, 9, seed=45):
            found = needs_of(line, record, ports=ports)
            self.assertEqual(found, needs_by_hand(line, record, ports))
            added += found != needs_of(line, record)
        self.assertGreater(added, 50)


class FaultsOfLogsTest(unittest.TestCase):
    def test_a_ring_through_a_log(self):
        ports = {5: [("b", 0), ("b", 1), ("c", 0), ("a", 0)]}
        kind, frames = fault_in(N, R, ports=ports)
        self.assertEqual(kind, "ring")
        self.assertIs(shows_fault(N, R, (kind, frames), ports=ports), True)
        self.assertIs(fault_in(N, R), None)
        self.assertIs(shows_fault(N, R, (kind, frames)), False)

    def test_at_any_distance(self):
        record = {"a": [("c", "all")], "b": [("c", "all")] * 4, "c": [("a", "direct")]}
        ports = {-3: [("b", 0), ("b", 1), ("b", 2), ("b", 3), ("a", 0)]}
        for frames, expected in [([("b", 0), ("a", 0)], False), ([("a", 0), ("c", 0)], False)]:
            self.assertIs(shows_fault(N, record, ("ring", frames), ports=ports), expected)
        ports[8] = [("c", 0), ("b", 0), ("b", 1), ("b", 2), ("b", 3), ("a", 0)]
        for frames, expected in [([("c", 0), ("a", 0)], True), ([("a", 0), ("c", 0)], True),
                                 ([("c", 0), ("b", 2), ("a", 0)], True), ([("c", 0), ("b", 2)], True),
                                 ([("b", 3), ("c", 0)], True), ([("c", 0), ("a", 0), ("b", 2)], False),
                                 ([("b", 2), ("a", 0)], False), ([("b", 1), ("b", 3), ("a", 0)], False)]:
            with self.subTest(frames):
                self.assertIs(shows_fault(N, record, ("ring", frames), ports=ports), expected)
                self.assertIs(shows_fault(N, record, ("ring", frames)), False)

    def test_a_ring_of_two_logs_that_disagree(self):
        record = {**EMPTY, "a": [("c", "all")], "b": [("c", "all")]}
        one, other = ("a", 0), ("b", 0)
        ports = {1: [one, other], 7: [other, one]}
        self.assertEqual(sorted(fault_in(N, record, ports=ports)[1]), [one, other])
        self.assertIs(shows_fault(N, record, ("ring", [one, other]), ports=ports), True)
        self.assertIs(fault_in(N, record, ports={1: [one, other], 7: [one, other]}), None)
        self.assertIs(shows_fault(N, record, ("ring", [one, other]), ports={1: [one, other]}), False)

    def test_single_frames_stand_before_rings_of_logs(self):
        record = {"a": [("b", "all")], "b": [("a", "direct"), ("c", "flood")], "c": []}
        ports = {3: [("b", 0), ("b", 1), ("a", 0)]}
        self.assertEqual(fault_in(N, record, ports=ports), ("silent", ("b", 1)))
        self.assertIs(shows_fault(N, record, ("ring", [("a", 0), ("b", 0)]), ports=ports), True)

    def test_possible_exactly_if_there_is_no_fault(self):
        rings = 0
        for line, record, ports in any_cases(250, 5, seed=46):
            fault = fault_in(line, record, ports=ports)
            self.assertIs(fault is None, len(tried_histories(line, record, ports)) > 0)
            if fault is not None:
                self.assertIs(shows_fault(line, record, fault, ports=ports), True)
                rings += fault_in(line, record) is None
                with self.assertRaises(Contradiction) as caught:
                    least_history(line, record, ports=ports)
                self.assertEqual(caught.exception.reason, fault)
        self.assertGreater(rings, 20)

    def test_two_hundred_items(self):
        line, frames, record, ports = long_case()
        self.assertEqual(len(ports), 12)
        self.assertIs(fault_in(line, record, ports=ports), None)
        position = max(ports, key=lambda at: len(ports[at]))
        log = ports[position]
        rings = 0
        for at in range(len(log) - 1):
            if log[at][0] != log[at + 1][0]:
                changed = {**ports, position: log[:at] + [log[at + 1], log[at]] + log[at + 2:]}
                fault = fault_in(line, record, ports=changed)
                rings += fault is not None
                self.assertIs(fault is None or shows_fault(line, record, fault, ports=changed), True)
        self.assertGreater(rings, 5)


if __name__ == "__main__":
    unittest.main()
