"""Histories: points [2], [3], [11] to [14] and the interface."""

import itertools
import math
import random
import unittest

from floodline import histories
from floodline.errors import Contradiction, InvalidFrame, InvalidLine, InvalidNumber, InvalidPorts, InvalidRecord
from floodline.errors import TooMany
from floodline.histories import count_histories, is_history, least_history, nth_history, places_of
from floodline.histories import reversed_history, surely_before
from floodline.records import fault_in, record_of
from tests.recordings import EMPTY, F_ORDER, H, NO_FRAMES_OF_R, NO_PORTS_OF_R, NO_RECORDS, PAIR, R, RING
from tests.recordings import any_cases, is_history_by_hand, long_case, order_of, possible_cases, recorded
from tests.recordings import tried_histories
from tests.samples import F, FAR, N, ODD_VALUES, Pair, Row, host_names, random_frames, raised, reordered, unchanged
from tests.test_lines import NO_LINES

LOG = [("a", 0), ("b", 0), ("a", 1)]
# Not possible: a ring, a flood to a silent host, an unknown target.
IMPOSSIBLE = [(PAIR, {"a": [("b", "flood")], "b": [("a", "flood")]}),
              (PAIR, {"a": [("b", "all"), ("b", "flood")], "b": []}),
              (PAIR, {"a": [("b", "direct")], "b": []}), (PAIR, RING)]


def error_of(function, *values, **named):
    """Return the error that a call raises."""
    try:
        function(*values, **named)
    except ValueError as error:
        return error
    return None


def independent(many, items):
    """Return a line and a record in which so many hosts send so many frames, in any order."""
    hosts = host_names(many + 1)
    line = {host: at for at, host in enumerate(hosts)}
    record = {host: [(hosts[-1], "all")] * items for host in hosts[:-1]}
    return line, {**record, hosts[-1]: []}


class IsHistoryTest(unittest.TestCase):
    def test_all_orders(self):
        for line, record, ports in any_cases(120, 5, seed=51):
            for logs in [None, ports]:
                for order in map(list, itertools.permutations(recorded(record))):
                    expected = is_history_by_hand(line, record, logs, order)
                    self.assertIs(is_history(line, record, order, ports=logs), expected)

    def test_lists_of_some_frames(self):
        order = list(F_ORDER)
        self.assertIs(is_history(N, R, order), True)
        for value in [order[:-1], order[1:], [], order + order[-1:], order + [("a", 1)], order + order, order[::-1],
                      order[:2] + [order[1]] + order[3:], [order[0]] * 4, order[:3] + [("c", 1)], order[:3] + [None]]:
            self.assertIs(is_history(N, R, value), False)

    def test_no_frames(self):
        self.assertIs(is_history(N, EMPTY, []), True)
        self.assertIs(is_history({"a": 3}, {"a": []}, []), True)
        self.assertIs(is_history(N, EMPTY, [("a", 0)]), False)
        for value in ODD_VALUES:
            self.assertIs(is_history(N, EMPTY, value), isinstance(value, list) and not value)

    def test_values_of_other_kinds(self):
        order = list(F_ORDER)
        for value in ODD_VALUES + [tuple(order), Row(order), iter(order), {frame: True for frame in order}, set(order),
                                   [list(frame) for frame in order], order[:3] + [Pair(order[3])],
                                   order[:3] + [("b", True)], [("a", False)] + order[1:], order[:3] + [("b", 1, 0)],
                                   order[:3] + [("b",)], order[:3] + [("b", [])], order[:3] + [([], 1)], F]:
            with self.subTest(repr(value)[:60]):
                self.assertIs(is_history(N, R, value), False)

    def test_a_record_that_is_not_possible_has_none(self):
        for line, record in IMPOSSIBLE:
            for order in map(list, itertools.permutations(recorded(record))):
                self.assertIs(is_history(line, record, order), False)
        self.assertIs(is_history(PAIR, IMPOSSIBLE[0][1], None), False)

    def test_logs(self):
        record = {**EMPTY, "a": [("c", "all")], "b": [("c", "all")]}
        one, other = ("a", 0), ("b", 0)
        for ports, expected in [(None, [True, True]), ({}, [True, True]), ({3: [one, other]}, [True, False]),
                                ({3: [other, one]}, [False, True]),
                                ({3: [one, other], 4: [other, one]}, [False, False])]:
            found = [is_history(N, record, order, ports=ports) for order in [[one, other], [other, one]]]
            self.assertEqual(found, expected)

    def test_frames_that_were_sent_are_a_history_of_their_record(self):
        for line, frames, record, ports in possible_cases(150, 40, seed=52):
            order = order_of(frames)
            self.assertIs(is_history(line, record, order), True)
            self.assertIs(is_history(line, record, order, ports=ports), True)
            self.assertIs(is_history(line, record_of(line, frames), order), True)


class SmallRecordsTest(unittest.TestCase):
    """All orders of small records are tried one by one."""

    def cases(self):
        for line, frames, record, ports in possible_cases(70, 6, seed=53):
            yield line, record, None, tried_histories(line, record)
            yield line, record, ports, tried_histories(line, record, ports)
        for line, record, ports in any_cases(150, 5, seed=54):
            if fault_in(line, record, ports=ports) is None:
                yield line, record, ports, tried_histories(line, record, ports)

    def test_least_and_nth_and_count(self):
        for line, record, ports, tried in self.cases():
            self.assertEqual(least_history(line, record, ports=ports), tried[0])
            self.assertEqual(count_histories(line, record, ports=ports), len(tried))
            for number, order in enumerate(tried):
                self.assertEqual(nth_history(line, record, number, ports=ports), order)
            for number in [len(tried), len(tried) + 1, -1, -len(tried), FAR]:
                self.assertEqual(raised(nth_history, line, record, number, ports=ports), InvalidNumber)

    def test_surely_before_and_reversed(self):
        for line, record, ports, tried in self.cases():
            for one, other in itertools.permutations(recorded(record), 2):
                surely = all(order.index(one) < order.index(other) for order in tried)
                self.assertIs(surely_before(line, record, one, other, ports=ports), surely)
                found = reversed_history(line, record, one, other, ports=ports)
                if surely:
                    self.assertIs(found, None)
                else:
                    self.assertIn(found, tried)
                    self.assertLess(found.index(other), found.index(one))

    def test_places(self):
        for line, record, ports, tried in self.cases():
            for frame in recorded(record):
                places = [order.index(frame) for order in tried]
                self.assertEqual(places_of(line, record, frame, ports=ports), (min(places), max(places)))

    def test_contradiction(self):
        seen = set()
        for line, record, ports in any_cases(150, 5, seed=55):
            fault = fault_in(line, record, ports=ports)
            if fault is not None:
                self.assertEqual(tried_histories(line, record, ports), [])
                seen.add(fault[0])
                frames = recorded(record)
                for function, rest in [(least_history, ()), (places_of, (frames[0],)), (count_histories, ()),
                                       (nth_history, (0,)), (nth_history, (None,))]:
                    error = error_of(function, line, record, *rest, ports=ports)
                    self.assertIs(type(error), Contradiction)
                    self.assertEqual(error.reason, fault)
                for function in [surely_before, reversed_history]:
                    if len(frames) > 1:
                        error = error_of(function, line, record, frames[0], frames[-1], ports=ports)
                        self.assertIs(type(error), Contradiction)
                        self.assertEqual(error.reason, fault)
        self.assertEqual(seen, {"silent", "unknown", "ring"})


class ExamplesTest(unittest.TestCase):
    def test_examples(self):
        self.assertEqual(count_histories(N, H), 2)
        self.assertEqual(least_history(N, H), [("a", 0), ("a", 1), ("b", 0)])
        self.assertEqual(places_of(N, H, ("b", 0)), (1, 2))
        self.assertIs(surely_before(N, H, ("a", 0), ("b", 0)), True)
        self.assertEqual(reversed_history(N, H, ("a", 1), ("b", 0)), [("a", 0), ("b", 0), ("a", 1)])
        self.assertEqual(count_histories(N, H, ports={3: LOG}), 1)

    def test_with_a_log(self):
        ports = {3: LOG}
        self.assertEqual(least_history(N, H, ports=ports), LOG)
        self.assertEqual(places_of(N, H, ("b", 0), ports=ports), (1, 1))
        self.assertIs(surely_before(N, H, ("b", 0), ("a", 1), ports=ports), True)
        self.assertIs(reversed_history(N, H, ("b", 0), ("a", 1), ports=ports), None)
        self.assertEqual(reversed_history(N, H, ("a", 1), ("b", 0), ports=ports), LOG)
        self.assertEqual(nth_history(N, H, 0, ports=ports), LOG)
        self.assertEqual(raised(nth_history, N, H, 1, ports=ports), InvalidNumber)

    def test_one_history(self):
        self.assertEqual(least_history(N, R), F_ORDER)
        self.assertEqual(count_histories(N, R), 1)
        self.assertEqual([places_of(N, R, frame) for frame in F_ORDER], [(0, 0), (1, 1), (2, 2), (3, 3)])
        self.assertIs(surely_before(N, R, ("a", 0), ("b", 1)), True)
        self.assertIs(surely_before(N, R, ("b", 1), ("a", 0)), False)
        self.assertEqual(reversed_history(N, R, ("b", 1), ("a", 0)), F_ORDER)

    def test_no_frames(self):
        for line, record in [(N, EMPTY), ({"a": 3}, {"a": []})]:
            self.assertEqual(least_history(line, record), [])
            self.assertEqual(count_histories(line, record), 1)
            self.assertEqual(nth_history(line, record, 0), [])
            self.assertEqual(least_history(line, record, ports={7: []}), [])
            for number in [1, -1]:
                self.assertEqual(raised(nth_history, line, record, number), InvalidNumber)

    def test_histories_are_compared_as_lists_of_tuples(self):
        line = {"b": 0, "a": 1, "aa": 2, "c": 3}
        record = {"b": [("c", "all")] * 2, "aa": [("c", "all")], "a": [("c", "all")] * 12, "c": []}
        expected = [("a", at) for at in range(12)] + [("aa", 0), ("b", 0), ("b", 1)]
        self.assertEqual(least_history(line, record), expected)
        self.assertEqual(nth_history(line, record, 0), expected)
        last = [("b", 0), ("b", 1), ("aa", 0)] + [("a", at) for at in range(12)]
        self.assertEqual(nth_history(line, record, count_histories(line, record) - 1), last)


class CountTest(unittest.TestCase):
    def test_histories_without_needs_between_hosts(self):
        for many, items in [(1, 1), (2, 1), (2, 5), (3, 4), (4, 2), (11, 1), (1, 200), (3, 13)]:
            line, record = independent(many, items)
            expected = math.factorial(many * items) // math.factorial(items) ** many
            self.assertEqual(count_histories(line, record), expected)
            self.assertEqual(nth_history(line, record, 0), recorded(record))
            self.assertEqual(raised(nth_history, line, record, expected), InvalidNumber)

    def test_counts_at_the_bound_and_above_it(self):
        for lengths, count in [((29, 99), 3000), ((99, 29), 3000), ((0, 29, 99), 3000), ((9, 9, 29), 3000),
                               ((1, 2, 4, 9, 9), 3000), ((2, 197), 594), ((1, 18, 78), 3002), ((16, 176), 3009),
                               ((30, 99), 3100), ((9, 9, 30), 3100), ((100, 99), 10100)]:
            line, _ = independent(len(lengths), 1)
            hosts = list(line)
            record = {host: [(hosts[-1], "all")] * many for host, many in zip(hosts, lengths)}
            record[hosts[-1]] = []
            self.assertEqual(math.prod(many + 1 for many in lengths), count)
            for function, rest in [(count_histories, ()), (nth_history, (0,))]:
                error = error_of(function, line, record, *rest)
                self.assertEqual(type(error), TooMany if count > 3000 else type(None))
                if count > 3000:
                    self.assertEqual(error.count, count)

    def test_the_product_counts_all_hosts(self):
        line, record = independent(39, 5)
        error = error_of(count_histories, line, record)
        self.assertEqual(error.count, 6 ** 39)
        line, record = independent(12, 1)
        self.assertEqual(error_of(nth_history, line, record, 0).count, 4096)

    def test_too_many_though_there_is_one_history(self):
        frames = [("a", "b"), ("b", "a")] * 60
        record = record_of(PAIR, frames)
        ports = {0: order_of(frames)}
        self.assertEqual(error_of(count_histories, PAIR, record, ports=ports).count, 61 * 61)
        self.assertEqual(least_history(PAIR, record, ports=ports), order_of(frames))

    def test_random_indices_of_larger_records(self):
        chance = random.Random(56)
        for line, _, record, ports in possible_cases(40, 14, seed=57):
            if math.prod(len(items) + 1 for items in record.values()) <= 3000:
                for logs in [None, ports]:
                    many = count_histories(line, record, ports=logs)
                    numbers = sorted({0, many - 1, *[chance.randrange(many) for _ in range(4)]})
                    found = [nth_history(line, record, number, ports=logs) for number in numbers]
                    self.assertEqual(found, sorted(found))
                    self.assertEqual(len(set(map(tuple, found))), len(numbers))
                    self.assertEqual(found[0], least_history(line, record, ports=logs))
                    for order in found:
                        self.assertIs(is_history_by_hand(line, record, logs, order), True)


class LongRecordsTest(unittest.TestCase):
    def test_two_hundred_items(self):
        line, frames, record, ports = long_case()
        order = order_of(frames)
        for logs in [None, ports]:
            least = least_history(line, record, ports=logs)
            self.assertIs(is_history_by_hand(line, record, logs, least), True)
            self.assertLessEqual(least, order)
            self.assertIs(is_history(line, record, order, ports=logs), True)
            self.assertIs(is_history(line, record, order[1:] + order[:1], ports=logs),
                          is_history_by_hand(line, record, logs, order[1:] + order[:1]))
            for one, other in [(order[0], order[-1]), (order[-1], order[0]), (order[50], order[60]),
                               (order[60], order[50])]:
                surely = surely_before(line, record, one, other, ports=logs)
                found = reversed_history(line, record, one, other, ports=logs)
                self.assertIs(found is None, surely)
                if found is not None:
                    self.assertIs(is_history_by_hand(line, record, logs, found), True)
                    self.assertLess(found.index(other), found.index(one))
            for at in [0, 77, 199]:
                low, high = places_of(line, record, order[at], ports=logs)
                self.assertTrue(0 <= low <= at <= high < 200)

    def test_one_host_and_two_hosts(self):
        record = {"a": [("b", "all")] * 200, "b": []}
        order = [("a", at) for at in range(200)]
        self.assertEqual(least_history(PAIR, record), order)
        self.assertEqual(count_histories(PAIR, record), 1)
        self.assertEqual(nth_history(PAIR, record, 0), order)
        self.assertEqual(places_of(PAIR, record, ("a", 150)), (150, 150))
        self.assertIs(surely_before(PAIR, record, ("a", 0), ("a", 199)), True)
        line, record = independent(2, 100)
        self.assertEqual(places_of(line, record, ("aa", 10)), (10, 110))
        self.assertEqual(least_history(line, record), recorded(record))
        self.assertEqual(reversed_history(line, record, ("aa", 0), ("ab", 99))[-1], ("aa", 99))

    def test_least_history_of_many_frames(self):
        chance = random.Random(58)
        for _ in range(5):
            line = {host: at for at, host in enumerate(host_names(chance.randint(2, 12)))}
            frames = random_frames(chance, line, 60)
            record = record_of(line, frames)
            least = least_history(line, record)
            self.assertIs(is_history_by_hand(line, record, None, least), True)
            # Greedy, frame by frame: no smaller frame can stand at the place of the first difference.
            for at, frame in enumerate(least):
                for smaller in [other for other in least[at:] if other < frame]:
                    rest = [other for other in least[at:] if other != smaller]
                    self.assertIs(is_history(line, record, least[:at] + [smaller] + rest), False)


class ErrorTest(unittest.TestCase):
    def calls(self):
        one, other = ("a", 0), ("b", 0)
        return [(is_history, (F_ORDER,)), (is_history, (None,)), (least_history, ()), (surely_before, (one, other)),
                (places_of, (one,)), (reversed_history, (one, other)), (count_histories, ()), (nth_history, (0,))]

    def wrong_calls(self):
        return [(is_history, (None,)), (least_history, ()), (surely_before, (None, None)), (places_of, (None,)),
                (reversed_history, (None, None)), (count_histories, ()), (nth_history, (None,))]

    def test_line(self):
        for line in NO_LINES:
            for function, rest in self.calls():
                self.assertEqual(raised(function, line, R, *rest), InvalidLine)
            for function, rest in self.wrong_calls():
                self.assertEqual(raised(function, line, None, *rest, ports=0), InvalidLine)

    def test_record(self):
        for record in NO_RECORDS:
            with self.subTest(repr(record)[:60]):
                for function, rest in self.calls():
                    self.assertEqual(raised(function, N, record, *rest), InvalidRecord)
                    self.assertEqual(raised(function, N, record, *rest, ports={}), InvalidRecord)
                for function, rest in self.wrong_calls():
                    self.assertEqual(raised(function, N, record, *rest, ports=0), InvalidRecord)

    def test_frame(self):
        for frame in NO_FRAMES_OF_R:
            with self.subTest(repr(frame)[:60]):
                for ports in [None, {}, 0]:
                    self.assertEqual(raised(places_of, N, R, frame, ports=ports), InvalidFrame)
                    for function in [surely_before, reversed_history]:
                        self.assertEqual(raised(function, N, R, frame, ("a", 0), ports=ports), InvalidFrame)
                        self.assertEqual(raised(function, N, R, ("a", 0), frame, ports=ports), InvalidFrame)
                        self.assertEqual(raised(function, N, R, frame, frame, ports=ports), InvalidFrame)

    def test_one_and_other_are_different(self):
        for function in [surely_before, reversed_history]:
            for frame in F_ORDER:
                for ports in [None, {}, 0]:
                    self.assertEqual(raised(function, N, R, frame, frame, ports=ports), InvalidFrame)
            self.assertEqual(raised(function, PAIR, RING, ("a", 0), ("a", 0)), InvalidFrame)

    def test_frames_are_checked_before_contradictions(self):
        for line, record in IMPOSSIBLE:
            self.assertEqual(raised(places_of, line, record, ("a", 9)), InvalidFrame)
            for function in [surely_before, reversed_history]:
                self.assertEqual(raised(function, line, record, ("a", 9), ("a", 0)), InvalidFrame)
                self.assertEqual(raised(function, line, record, ("a", 0), ("b", 9)), InvalidFrame)

    def test_ports(self):
        for ports in NO_PORTS_OF_R:
            with self.subTest(repr(ports)[:60]):
                for function, rest in self.calls():
                    self.assertEqual(raised(function, N, R, *rest, ports=ports), InvalidPorts)
                self.assertEqual(raised(nth_history, N, R, None, ports=ports), InvalidPorts)

    def test_ports_are_checked_before_contradictions(self):
        for line, record in IMPOSSIBLE:
            for ports in [0, {0: []}, {FAR + 1: recorded(record)}]:
                for function, rest in [(least_history, ()), (places_of, (("a", 0),)), (count_histories, ()),
                                       (nth_history, (0,))]:
                    self.assertEqual(raised(function, line, record, *rest, ports=ports), InvalidPorts)

    def test_contradiction_with_its_reason(self):
        for line, record in IMPOSSIBLE:
            for function, rest in [(least_history, ()), (places_of, (("a", 0),)), (count_histories, ()),
                                   (nth_history, (0,)), (nth_history, (-1,)), (nth_history, (None,))]:
                error = error_of(function, line, record, *rest)
                self.assertIs(type(error), Contradiction)
                self.assertEqual(error.reason, fault_in(line, record))
        for line, record in [IMPOSSIBLE[0], IMPOSSIBLE[3]]:
            for function in [surely_before, reversed_history]:
                self.assertEqual(raised(function, line, record, ("a", 0), ("b", 0)), Contradiction)

    def test_contradiction_before_too_many(self):
        record = {"a": [("b", "all")] * 60 + [("b", "flood")], "b": [("a", "flood")] * 60}
        for function, rest in [(count_histories, ()), (nth_history, (None,))]:
            self.assertEqual(raised(function, PAIR, record, *rest), Contradiction)
        record = {"a": [("b", "all")] * 60, "b": [("a", "direct")] * 60}
        for number in [0, 1, -1, None]:
            self.assertEqual(raised(nth_history, PAIR, record, number), TooMany)

    def test_number(self):
        numbers = [value for value in ODD_VALUES if repr(value) not in ("0", "1")]
        for number in numbers + [2, -1, -2, FAR, -FAR, 10 ** 39]:
            with self.subTest(repr(number)[:50]):
                self.assertEqual(raised(nth_history, N, H, number), InvalidNumber)
                self.assertEqual(raised(nth_history, N, H, number, ports={}), InvalidNumber)
        self.assertEqual([raised(nth_history, N, H, number) for number in [0, 1]], [None, None])
        self.assertEqual(raised(nth_history, N, EMPTY, False), InvalidNumber)

    def test_ports_are_passed_by_name_only(self):
        for function, rest in self.calls():
            self.assertEqual(raised(function, N, R, *rest, {}), TypeError)


class ConventionTest(unittest.TestCase):
    def test_functions_are_defined_in_this_file(self):
        for name in ["is_history", "least_history", "surely_before", "places_of", "reversed_history",
                     "count_histories", "nth_history"]:
            self.assertEqual(getattr(histories, name).__module__, "floodline.histories")

    def calls(self):
        one, other = ("a", 1), ("b", 0)
        return [(is_history, (list(LOG),)), (least_history, ()), (surely_before, (one, other)), (places_of, (one,)),
                (reversed_history, (one, other)), (count_histories, ()), (nth_history, (0,))]

    def test_arguments_do_not_change(self):
        line = {"c": 9, "a": 0, "b": 5}
        record = {"b": [("a", "direct")], "c": [], "a": [("b", "all"), ("c", "all")]}
        for ports in [None, {}, {3: list(LOG), -1: [("a", 0), ("a", 1)]}]:
            for function, rest in self.calls():
                self.assertTrue(unchanged(function, line, record, *rest, ports=ports))

    def test_results_are_new(self):
        for ports in [None, {}, {3: list(LOG)}]:
            for function, rest in [(least_history, ()), (reversed_history, (("a", 1), ("b", 0))), (nth_history, (0,))]:
                found = function(N, H, *rest, ports=ports)
                self.assertIs(type(found), list)
                kept = list(found)
                found.append("x")
                self.assertEqual(function(N, H, *rest, ports=ports), kept)
                if ports:
                    self.assertEqual(ports, {3: LOG})
        self.assertIs(type(places_of(N, H, ("a", 0))), tuple)

    def test_reasons_are_new(self):
        line, record = IMPOSSIBLE[0]
        first = error_of(least_history, line, record).reason
        first[1].append("x")
        self.assertEqual(sorted(error_of(least_history, line, record).reason[1]), [("a", 0), ("b", 0)])

    def test_the_order_of_items_has_no_effect(self):
        for line, _, record, ports in possible_cases(25, 6, seed=59):
            frames = recorded(record)
            calls = [(least_history, ()), (count_histories, ()), (nth_history, (0,)), (is_history, (frames,))]
            calls += [(places_of, (frame,)) for frame in frames]
            calls += [(function, pair) for function in [surely_before, reversed_history]
                      for pair in itertools.permutations(frames[:3], 2)]
            for other, same, logs in zip(reordered(line), reordered(record), reordered(ports)):
                for function, rest in calls:
                    expected = function(line, record, *rest, ports=ports)
                    self.assertEqual(function(other, same, *rest, ports=logs), expected)


if __name__ == "__main__":
    unittest.main()
