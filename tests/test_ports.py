"""Listeners: points [2], [3], [7], [11] to [14] and the interface of floodline.ports."""

import itertools
import unittest

from floodline import ports as module
from floodline.errors import Contradiction, InvalidFrame, InvalidHistory, InvalidHost, InvalidLine, InvalidPorts
from floodline.errors import InvalidPosition, InvalidRecord
from floodline.frames import heard_at
from floodline.histories import is_history, least_history
from floodline.ports import heard_by, knew, log_at
from floodline.records import fault_in
from tests.recordings import EMPTY, F_ORDER, H, NO_FRAMES_OF_R, NO_PORTS_OF_R, NO_RECORDS, PAIR, R, RING
from tests.recordings import any_cases, log_of, long_case, order_of, possible_cases, reaches, recorded, sent_frames
from tests.recordings import tried_histories
from tests.samples import F, FAR, N, NO_HOSTS, NO_POSITIONS, ODD_VALUES, Pair, Row, raised, reordered, unchanged
from tests.switches import Switches
from tests.test_histories import IMPOSSIBLE, error_of
from tests.test_lines import NO_LINES

H_ORDER = [("a", 0), ("b", 0), ("a", 1)]
# No history of R: of another kind, not all frames, frames twice or in an order that needs bar.
NO_HISTORIES_OF_R = ODD_VALUES + [
    tuple(F_ORDER), Row(F_ORDER), F_ORDER[:-1], F_ORDER[1:], F_ORDER + F_ORDER[-1:], F_ORDER[::-1],
    [("b", 0)] + F_ORDER[:1] + F_ORDER[2:], F_ORDER[:2] + [("b", 1), ("c", 0)], [list(frame) for frame in F_ORDER],
    [Pair(frame) for frame in F_ORDER], F_ORDER[:3] + [("b", True)], F_ORDER[:3] + [("b", 2)], F_ORDER[:3] + [None],
    {frame: None for frame in F_ORDER}, F, [F_ORDER], [("a", 0), ("c", 0), ("b", 0), ("b", 1)]]
# One frame of each kind to each side, from b and c: all, flood and direct.
SIX = {"a": -8, "b": 0, "c": 5, "d": 12}
KINDS_TO_SIDES = {"a": [], "b": [("a", "all"), ("c", "flood"), ("d", "direct"), ("a", "direct")],
                  "c": [("b", "flood"), ("d", "all"), ("d", "flood"), ("a", "direct")], "d": []}


def places_around(line):
    """Return positions at hosts, between them and beside them."""
    return range(min(line.values()) - 3, max(line.values()) + 4)


def known_before(line, record, order):
    """Return, for each frame of an order, which hosts each switch knows before the frame is sent."""
    switches = Switches(line)
    found = {}
    for frame in order:
        found[frame] = {at: set(learnt) for at, learnt in switches.learnt.items()}
        switches.send(*sent_frames(record, [frame])[0])
    return found


def answers_by_hand(line, record, ports=None):
    """Return the answers of knew for all positions, frames and hosts, by playing all histories."""
    played = [known_before(line, record, order) for order in tried_histories(line, record, ports)]
    found = {}
    for position, frame in itertools.product(places_around(line), recorded(record)):
        if reaches(line, record, frame, position):
            for host in line:
                shown = {host in known[frame][position] for known in played}
                found[position, frame, host] = {(True,): "surely", (False,): "never"}.get(tuple(shown), "possibly")
    return found


class HeardByTest(unittest.TestCase):
    def test_examples(self):
        self.assertEqual(heard_by(N, H, 3), [("a", 0), ("a", 1), ("b", 0)])
        self.assertEqual(heard_by(N, H, 7), [("a", 0), ("a", 1)])

    def test_at_and_between_and_beside_hosts(self):
        for position, expected in [(-1, [("a", 0)]), (0, [("a", 0), ("b", 0)]), (1, [("a", 0), ("b", 0)]),
                                   (4, [("a", 0), ("b", 0)]), (5, [("a", 0), ("b", 0), ("b", 1), ("c", 0)]),
                                   (6, [("a", 0), ("b", 1), ("c", 0)]), (8, [("a", 0), ("b", 1), ("c", 0)]),
                                   (9, [("a", 0), ("b", 1), ("c", 0)]), (10, [("a", 0), ("c", 0)]),
                                   (FAR, [("a", 0), ("c", 0)]), (-FAR, [("a", 0)])]:
            with self.subTest(position):
                self.assertEqual(heard_by(N, R, position), expected)

    def test_each_kind_to_each_side(self):
        all_b, flood_b, right_b, left_b = [("b", at) for at in range(4)]
        flood_c, all_c, flood_right, left_c = [("c", at) for at in range(4)]
        for position, expected in [(-FAR, [all_b, flood_b, all_c, flood_right]),
                                   (-9, [all_b, flood_b, all_c, flood_right]),
                                   (-8, [all_b, flood_b, left_b, all_c, flood_right, left_c]),
                                   (-1, [all_b, flood_b, left_b, all_c, flood_right, left_c]),
                                   (0, [all_b, flood_b, right_b, left_b, flood_c, all_c, flood_right, left_c]),
                                   (1, [all_b, flood_b, right_b, flood_c, all_c, flood_right, left_c]),
                                   (5, [all_b, flood_b, right_b, flood_c, all_c, flood_right, left_c]),
                                   (6, [all_b, right_b, flood_c, all_c, flood_right]),
                                   (12, [all_b, right_b, flood_c, all_c, flood_right]),
                                   (13, [all_b, flood_c, all_c]), (FAR, [all_b, flood_c, all_c])]:
            with self.subTest(position):
                self.assertEqual(heard_by(SIX, KINDS_TO_SIDES, position), expected)

    def test_hosts_at_both_limits(self):
        line = {"a": -FAR, "b": FAR}
        record = {"a": [("b", "direct"), ("b", "flood"), ("b", "all")], "b": [("a", "flood")]}
        for position in [-FAR, 1 - FAR, 0, FAR - 1, FAR]:
            self.assertEqual(heard_by(line, record, position), recorded(record))

    def test_no_frames(self):
        self.assertEqual(heard_by(N, EMPTY, 5), [])
        self.assertEqual(heard_by({"a": 3}, {"a": []}, 3), [])

    def test_any_records(self):
        for line, record, _ in any_cases(80, 12, seed=61):
            for position in places_around(line):
                expected = [frame for frame in recorded(record) if reaches(line, record, frame, position)]
                self.assertEqual(heard_by(line, record, position), expected)

    def test_more_than_ten_frames_of_a_host(self):
        record = {**EMPTY, "b": [("a", "all")] * 12, "a": [("b", "direct")] * 2}
        self.assertEqual(heard_by(N, record, 6), [("b", at) for at in range(12)])
        self.assertEqual(heard_by(N, record, 5), [("a", 0), ("a", 1)] + [("b", at) for at in range(12)])

    def test_errors(self):
        for line in NO_LINES:
            self.assertEqual(raised(heard_by, line, R, 0), InvalidLine)
            self.assertEqual(raised(heard_by, line, None, None), InvalidLine)
        for record in NO_RECORDS:
            self.assertEqual(raised(heard_by, N, record, 0), InvalidRecord)
            self.assertEqual(raised(heard_by, N, record, None), InvalidRecord)
        for position in NO_POSITIONS:
            self.assertEqual(raised(heard_by, N, R, position), InvalidPosition)
            self.assertEqual(raised(heard_by, N, EMPTY, position), InvalidPosition)


class LogAtTest(unittest.TestCase):
    def test_examples(self):
        self.assertEqual(log_at(N, H, H_ORDER, 3), H_ORDER)
        self.assertEqual(log_at(N, H, H_ORDER, 7), [("a", 0), ("a", 1)])

    def test_in_the_order_of_the_history(self):
        self.assertEqual(log_at(N, R, F_ORDER, 5), F_ORDER)
        self.assertEqual(log_at(N, R, F_ORDER, 9), [("a", 0), ("c", 0), ("b", 1)])
        self.assertEqual(log_at(N, R, F_ORDER, FAR), [("a", 0), ("c", 0)])
        self.assertEqual(log_at(N, R, F_ORDER, -FAR), [("a", 0)])
        record = {**EMPTY, "a": [("c", "all")], "b": [("c", "all")]}
        for order in [[("a", 0), ("b", 0)], [("b", 0), ("a", 0)]]:
            self.assertEqual(log_at(N, record, order, 3), order)

    def test_no_frames(self):
        self.assertEqual(log_at(N, EMPTY, [], 5), [])

    def test_what_listeners_to_the_frames_hear(self):
        for line, frames, record, _ in possible_cases(80, 12, seed=62):
            order = order_of(frames)
            for position in places_around(line):
                log = log_at(line, record, order, position)
                self.assertEqual(log, log_of(line, frames, position))
                self.assertEqual(sorted(log), heard_by(line, record, position))
                self.assertEqual([order.index(frame) for frame in log], heard_at(line, frames, position))

    def test_logs_are_ports_that_the_history_keeps(self):
        for line, _, record, _ in possible_cases(40, 8, seed=63):
            order = least_history(line, record)
            ports = {at: log_at(line, record, order, at) for at in list(places_around(line))[:12]}
            self.assertIs(is_history(line, record, order, ports=ports), True)

    def test_two_hundred_items(self):
        line, frames, record, _ = long_case()
        for position in [min(line.values()), 0, max(line.values()) + 1]:
            self.assertEqual(log_at(line, record, order_of(frames), position), log_of(line, frames, position))

    def test_what_is_no_history(self):
        self.assertIsNone(raised(log_at, N, R, F_ORDER, 0))
        for history in NO_HISTORIES_OF_R:
            with self.subTest(repr(history)[:60]):
                self.assertEqual(raised(log_at, N, R, history, 0), InvalidHistory)
                self.assertEqual(raised(log_at, N, R, history, None), InvalidHistory)
        for line, record in IMPOSSIBLE:
            for order in map(list, itertools.permutations(recorded(record))):
                self.assertEqual(raised(log_at, line, record, order, 0), InvalidHistory)

    def test_other_errors(self):
        for line in NO_LINES:
            self.assertEqual(raised(log_at, line, R, F_ORDER, 0), InvalidLine)
            self.assertEqual(raised(log_at, line, None, None, None), InvalidLine)
        for record in NO_RECORDS:
            self.assertEqual(raised(log_at, N, record, F_ORDER, 0), InvalidRecord)
            self.assertEqual(raised(log_at, N, record, None, None), InvalidRecord)
        for position in NO_POSITIONS:
            self.assertEqual(raised(log_at, N, R, F_ORDER, position), InvalidPosition)


class KnewTest(unittest.TestCase):
    def test_examples(self):
        self.assertEqual([knew(N, H, 3, ("a", 1), host) for host in "abc"], ["surely", "possibly", "never"])

    def test_one_history(self):
        for position, frame, expected in [(0, ("a", 0), "nnn"), (FAR, ("a", 0), "nnn"), (5, ("b", 0), "snn"),
                                          (3, ("b", 0), "snn"), (5, ("c", 0), "ssn"), (6, ("c", 0), "snn"),
                                          (FAR, ("c", 0), "snn"), (5, ("b", 1), "sss"), (7, ("b", 1), "sns"),
                                          (9, ("b", 1), "sns")]:
            words = {"s": "surely", "n": "never", "p": "possibly"}
            for host, letter in zip("abc", expected):
                with self.subTest(position, frame=frame, host=host):
                    self.assertEqual(knew(N, R, position, frame, host), words[letter])

    def test_the_sender_itself(self):
        record = {**EMPTY, "a": [("b", "all"), ("c", "all"), ("b", "all")]}
        self.assertEqual([knew(N, record, 7, ("a", at), "a") for at in range(3)], ["never", "surely", "surely"])
        record = {"a": [("c", "all")], "b": [("a", "direct"), ("c", "all")], "c": []}
        self.assertEqual([knew(N, record, 3, ("b", at), "b") for at in range(2)], ["never", "surely"])
        self.assertEqual(knew(N, record, 7, ("b", 1), "b"), "never")

    def test_a_host_that_is_heard_later_or_not_at_all(self):
        record = {"a": [("b", "all")], "b": [("a", "direct")], "c": []}
        self.assertEqual([knew(N, record, 3, ("a", 0), host) for host in "abc"], ["never"] * 3)
        self.assertEqual([knew(N, record, 7, ("a", 0), host) for host in "abc"], ["never"] * 3)
        self.assertEqual([knew(N, record, 3, ("b", 0), host) for host in "abc"], ["surely", "never", "never"])

    def test_ports_decide(self):
        frame = ("a", 1)
        self.assertEqual(knew(N, H, 3, frame, "b"), "possibly")
        for log, expected in [(H_ORDER, "surely"), ([("a", 0), ("a", 1), ("b", 0)], "never")]:
            for position in [0, 1, 5]:
                self.assertEqual(knew(N, H, 3, frame, "b", ports={position: log}), expected)
        for ports in [None, {}, {7: [("a", 0), ("a", 1)], -1: [("a", 0), ("a", 1)]}]:
            self.assertEqual(knew(N, H, 3, frame, "b", ports=ports), "possibly")

    def test_positions_at_both_limits(self):
        line = {"a": -FAR, "b": 0, "c": FAR}
        record = {"a": [("b", "all"), ("c", "all")], "b": [("a", "direct"), ("c", "all")], "c": []}
        self.assertEqual([knew(line, record, -FAR, ("a", 1), host) for host in "abc"], ["surely", "possibly", "never"])
        self.assertEqual([knew(line, record, FAR, ("a", 1), host) for host in "abc"], ["surely", "possibly", "never"])
        self.assertEqual([knew(line, record, FAR, ("b", 1), host) for host in "abc"], ["surely", "never", "never"])
        self.assertEqual([knew(line, record, -1, ("b", 1), host) for host in "abc"], ["surely", "surely", "never"])

    def test_all_histories_one_by_one(self):
        words = {"surely": 0, "possibly": 0, "never": 0}
        for line, _, record, ports in possible_cases(60, 6, seed=64):
            for logs in [None, ports]:
                for (position, frame, host), expected in answers_by_hand(line, record, logs).items():
                    self.assertEqual(knew(line, record, position, frame, host, ports=logs), expected)
                    words[expected] += 1
        self.assertGreater(min(words.values()), 300)

    def test_two_hundred_items(self):
        line, frames, record, ports = long_case()
        order = order_of(frames)
        for at in [0, 60, 199]:
            known = known_before(line, record, order[:at + 1])[order[at]]
            host = frames[at][0]
            for other in sorted(line)[:8]:
                answer = knew(line, record, line[host], order[at], other, ports=ports)
                self.assertIn(answer, ["possibly", "surely" if other in known[line[host]] else "never"])

    def test_frame_errors(self):
        for frame in NO_FRAMES_OF_R:
            with self.subTest(repr(frame)[:60]):
                self.assertEqual(raised(knew, N, R, 5, frame, "a"), InvalidFrame)
                self.assertEqual(raised(knew, N, R, 5, frame, None, ports=0), InvalidFrame)
        for position in places_around(N):
            for frame in recorded(R):
                heard = reaches(N, R, frame, position)
                self.assertEqual(raised(knew, N, R, position, frame, "a"), None if heard else InvalidFrame)
                self.assertEqual(raised(knew, N, R, position, frame, "d"), InvalidHost if heard else InvalidFrame)

    def test_line_and_record_and_position_errors(self):
        for line in NO_LINES:
            self.assertEqual(raised(knew, line, R, 5, ("a", 0), "a"), InvalidLine)
            self.assertEqual(raised(knew, line, None, None, None, None, ports=0), InvalidLine)
        for record in NO_RECORDS:
            self.assertEqual(raised(knew, N, record, 5, ("a", 0), "a"), InvalidRecord)
            self.assertEqual(raised(knew, N, record, None, None, None, ports=0), InvalidRecord)
        for position in NO_POSITIONS:
            self.assertEqual(raised(knew, N, R, position, ("a", 0), "a"), InvalidPosition)
            self.assertEqual(raised(knew, N, R, position, None, None, ports=0), InvalidPosition)

    def test_host_and_ports_errors(self):
        for host in NO_HOSTS + ["d"]:
            self.assertEqual(raised(knew, N, R, 5, ("a", 0), host), InvalidHost)
            self.assertEqual(raised(knew, N, R, 5, ("a", 0), host, ports=0), InvalidHost)
        for ports in NO_PORTS_OF_R:
            self.assertEqual(raised(knew, N, R, 5, ("a", 0), "a", ports=ports), InvalidPorts)
        self.assertEqual(raised(knew, N, R, 5, ("a", 0), "a", {}), TypeError)

    def test_contradictions(self):
        for line, record in IMPOSSIBLE:
            error = error_of(knew, line, record, line["a"], ("a", 0), "b")
            self.assertIs(type(error), Contradiction)
            self.assertEqual(error.reason, fault_in(line, record))
            self.assertEqual(raised(knew, line, record, line["a"], ("a", 9), "b"), InvalidFrame)
            self.assertEqual(raised(knew, line, record, line["a"], ("a", 0), "z"), InvalidHost)
            self.assertEqual(raised(knew, line, record, line["a"], ("a", 0), "b", ports=0), InvalidPorts)
        ports = {5: [("b", 0), ("b", 1), ("c", 0), ("a", 0)]}
        error = error_of(knew, N, R, 5, ("a", 0), "b", ports=ports)
        self.assertEqual(error.reason, fault_in(N, R, ports=ports))
        self.assertEqual(raised(knew, PAIR, RING, 0, ("a", 0), "a"), Contradiction)


class ConventionTest(unittest.TestCase):
    def test_functions_are_defined_in_this_file(self):
        for name in ["heard_by", "log_at", "knew"]:
            self.assertEqual(getattr(module, name).__module__, "floodline.ports")

    def test_arguments_do_not_change(self):
        line = {"c": 9, "a": 0, "b": 5}
        record = {"b": [("a", "direct")], "c": [], "a": [("b", "all"), ("c", "all")]}
        self.assertTrue(unchanged(heard_by, line, record, 3))
        self.assertTrue(unchanged(log_at, line, record, list(H_ORDER), 7))
        for ports in [None, {}, {3: list(H_ORDER), -1: [("a", 0), ("a", 1)]}]:
            self.assertTrue(unchanged(knew, line, record, 3, ("a", 1), "b", ports=ports))

    def test_results_are_new(self):
        history = list(H_ORDER)
        for function, rest in [(heard_by, (3,)), (log_at, (history, 3)), (heard_by, (7,)), (log_at, (history, 7))]:
            found = function(N, H, *rest)
            kept = list(found)
            self.assertIs(type(found), list)
            self.assertIsNot(found, history)
            found.append("x")
            self.assertEqual(function(N, H, *rest), kept)
        self.assertEqual(history, H_ORDER)

    def test_the_order_of_items_has_no_effect(self):
        for line, _, record, ports in possible_cases(25, 6, seed=65):
            order = least_history(line, record)
            for other, same, logs in zip(reordered(line), reordered(record), reordered(ports)):
                for position in places_around(line):
                    heard = heard_by(line, record, position)
                    self.assertEqual(heard_by(other, same, position), heard)
                    self.assertEqual(log_at(other, same, order, position), log_at(line, record, order, position))
                    for frame, host in itertools.product(heard[:2], line):
                        self.assertEqual(knew(other, same, position, frame, host, ports=logs),
                                         knew(line, record, position, frame, host, ports=ports))


if __name__ == "__main__":
    unittest.main()
