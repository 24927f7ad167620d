"""Networks: points [2], [3], [7], [11], [12] and the interface of floodline.live."""

import random
import unittest

from floodline import live
from floodline.errors import Contradiction, FloodError, InvalidFrames, InvalidHost, InvalidLine, InvalidNumber
from floodline.errors import InvalidRecord, NothingToUndo
from floodline.frames import heard_at, kind_of, kinds_of, known_after
from floodline.histories import least_history
from floodline.live import AgeingNetwork, Network
from floodline.records import fault_in, record_of
from tests.recordings import EMPTY, NO_RECORDS, R, possible_cases, sent_frames
from tests.samples import AFTER_F, F, FAR, N, NO_HOSTS, ODD_VALUES, SILENT, Pair
from tests.samples import cases, host_names, raised, random_frames, random_line, reordered, unchanged
from tests.switches import Switches
from tests.test_frames import holds
from tests.test_histories import IMPOSSIBLE, error_of
from tests.test_lines import NO_LINES

NO_FRAME_VALUES = [value for value in ODD_VALUES if value != ("a", "b")] + [
    ["a", "b"], Pair(("a", "b")), ("a", "a"), ("a", "d"), ("d", "a"), ("a", "b", "c"), ("A", "b"), "a>b", ("a", None),
    (["a"], "b"), ("a", {}), [("a", "b")], F]
NO_AGES = [value for value in ODD_VALUES if repr(value) != "1"] + [0, -1, 301, 302, FAR, -FAR, 10 ** 39, "10", b"10"]


def played(line, frames, age=None):
    """Return the kinds of frames and the states before each of them and behind the last one."""
    kinds, states = [], []
    known = {host: None for host in line}
    for at in range(len(frames) + 1):
        if age is not None:
            recent = [sender for sender, _ in frames[max(at - age, 0):at]]
            known = {host: known[host] if host in recent else None for host in known}
        states.append(known)
        if at < len(frames):
            kinds.append(kind_of(line, known, *frames[at]))
            known = known_after(line, [frames[at]], start=known)
    return kinds, states


def shown(network):
    """Return all that a network shows."""
    return (network.line, network.known, network.frames, len(network), getattr(network, "age", None))


def undone(network):
    """Return what a network shows behind each undo, until there is nothing to undo; a twin is asked."""
    twin = network.twin()
    found = [shown(twin)]
    while True:
        try:
            twin.undo()
        except NothingToUndo:
            return found
        found.append(shown(twin))


def in_parts(chance, frames):
    """Return frames cut into lists of some frames."""
    parts = []
    while frames:
        many = chance.randint(1, 4)
        parts.append(frames[:many])
        frames = frames[many:]
    return parts


def both():
    """Return an empty network of each class."""
    return [Network(N), AgeingNetwork(N), AgeingNetwork(N, age=1), AgeingNetwork(N, age=300)]


class NewNetworkTest(unittest.TestCase):
    def test_examples(self):
        network = Network(N)
        self.assertEqual([network.send("a", "b"), network.tried(("b", "a"), ("c", "b")), network.send_all(("b", "a")),
                          len(network)], ["all", ["direct", "flood"], ["direct"], 2])

    def test_all_is_silent_at_first(self):
        for network in both():
            self.assertEqual((network.known, network.frames, network.line, len(network)), (SILENT, [], N, 0))
            self.assertEqual(raised(network.undo), NothingToUndo)

    def test_one_host_and_forty_hosts(self):
        network = Network({"a": -FAR})
        self.assertEqual((network.known, network.line), ({"a": None}, {"a": -FAR}))
        self.assertEqual(raised(network.send, "a", "a"), InvalidHost)
        line = {host: at for at, host in enumerate(host_names(40))}
        frames = random_frames(random.Random(71), line, 12)
        network = Network(line)
        self.assertEqual(network.send_all(*frames), kinds_of(line, frames))
        self.assertEqual(network.known, known_after(line, frames))

    def test_lines_that_are_none(self):
        for line in NO_LINES:
            with self.subTest(repr(line)[:50]):
                self.assertEqual(raised(Network, line), InvalidLine)
                self.assertEqual(raised(AgeingNetwork, line), InvalidLine)
                self.assertEqual(raised(AgeingNetwork, line, age=0), InvalidLine)

    def test_the_line_is_copied(self):
        for make in [Network, AgeingNetwork]:
            line = {"b": 5, "c": 9, "a": 0}
            network = make(line)
            line["a"] = 7
            del line["c"]
            self.assertEqual(network.line, N)
            self.assertEqual(network.send_all(*F), kinds_of(N, F))


class SendTest(unittest.TestCase):
    def test_one_by_one(self):
        for line, _, frames in cases(80, seed=72):
            network = Network(line)
            kinds, states = played(line, frames)
            for at, frame in enumerate(frames):
                self.assertEqual(network.known, states[at])
                self.assertEqual(network.tried(frame), [kinds[at]])
                self.assertEqual(network.send(*frame), kinds[at])
                self.assertEqual(network.frames, frames[:at + 1])
                self.assertEqual(len(network), at + 1)
            self.assertEqual(network.known, known_after(line, frames))
            self.assertEqual(network.line, line)

    def test_all_at_once(self):
        for line, _, frames in cases(80, seed=73):
            network = Network(line)
            self.assertEqual(network.tried(*frames), kinds_of(line, frames))
            self.assertEqual(len(network), 0)
            self.assertEqual(network.send_all(*frames), kinds_of(line, frames))
            self.assertEqual((network.frames, network.known), (frames, known_after(line, frames)))

    def test_in_parts(self):
        chance = random.Random(74)
        for line, _, frames in cases(80, seed=74):
            network = Network(line)
            kinds = []
            for part in in_parts(chance, frames):
                tried = network.tried(*part)
                self.assertEqual(network.send_all(*part), tried)
                kinds += tried
            self.assertEqual(kinds, kinds_of(line, frames))
            self.assertEqual(network.known, known_after(line, frames))

    def test_switches_that_learn_one_by_one(self):
        for line, _, frames in cases(60, seed=75):
            network = Network(line)
            switches = Switches(line)
            for frame in frames:
                network.send(*frame)
                switches.send(*frame)
            for host, interval in network.known.items():
                knowing = [at for at in switches.positions if interval is not None and holds(interval, at)]
                self.assertEqual(switches.knowing(host), knowing)

    def test_no_frames(self):
        for network in both():
            self.assertEqual((network.send_all(), network.tried()), ([], []))
            self.assertEqual(raised(network.undo), NothingToUndo)
            network.send("a", "b")
            before = undone(network)
            self.assertEqual((network.send_all(), network.tried()), ([], []))
            self.assertEqual(undone(network), before)
            self.assertEqual(len(before), 2)

    def test_hosts_that_are_none(self):
        for network in both():
            network.send_all(*F)
            before = undone(network)
            for host in NO_HOSTS + ["d", "ab"]:
                self.assertEqual(raised(network.send, host, "a"), InvalidHost)
                self.assertEqual(raised(network.send, "a", host), InvalidHost)
                self.assertEqual(raised(network.send, host, host), InvalidHost)
            for host in N:
                self.assertEqual(raised(network.send, host, host), InvalidHost)
            self.assertEqual(undone(network), before)

    def test_wrong_frames_among_right_ones(self):
        for network in both():
            network.send_all(*F[:2])
            before = undone(network)
            for wrong in NO_FRAME_VALUES:
                for frames in [[wrong], [wrong, F[0]], [F[0], wrong], F + [wrong] + F, F * 3 + [wrong], [wrong] * 12]:
                    self.assertEqual(raised(network.send_all, *frames), InvalidFrames)
                    self.assertEqual(raised(network.tried, *frames), InvalidFrames)
            self.assertEqual(undone(network), before)

    def test_tried_changes_nothing(self):
        for network in both():
            for frame in F * 2:
                before = undone(network)
                network.tried(*F)
                network.tried(frame)
                self.assertEqual(undone(network), before)
                network.send(*frame)

    def test_more_than_three_hundred_frames(self):
        chance = random.Random(76)
        line = random_line(chance, 9)
        frames = random_frames(chance, line, 312)
        network = Network(line)
        kinds = []
        for at in range(0, 312, 12):
            kinds += network.send_all(*frames[at:at + 12])
        self.assertEqual(kinds, played(line, frames)[0])
        self.assertEqual((len(network), network.frames), (312, frames))
        self.assertEqual(kinds[:300], kinds_of(line, frames[:300]))
        for function, rest in [(kinds_of, ()), (known_after, ()), (heard_at, (0,)), (record_of, ())]:
            self.assertEqual(raised(function, line, network.frames, *rest), InvalidFrames)
        self.assertEqual(len(network.twin()), 312)
        network.undo()
        self.assertEqual((len(network), kinds_of(line, network.frames)), (300, kinds[:300]))

    def test_three_hundred_changes(self):
        network = Network(N)
        for at in range(300):
            network.send(*F[at % 4])
        self.assertEqual((len(network), network.known), (300, AFTER_F))
        for _ in range(300):
            network.undo()
        self.assertEqual(network, Network(N))
        self.assertEqual(raised(network.undo), NothingToUndo)

    def test_positions_at_both_limits(self):
        line = {"a": -FAR, "b": FAR}
        network = Network(line)
        self.assertEqual(network.send_all(("a", "b"), ("b", "a")), ["all", "direct"])
        self.assertEqual(network.known, {"a": (None, None), "b": (-FAR, FAR)})


class UndoTest(unittest.TestCase):
    def test_it_returns_none(self):
        for network in both():
            network.send("a", "b")
            self.assertIsNone(network.undo())
            self.assertEqual(shown(network)[1:4], (SILENT, [], 0))

    def test_each_change_is_reverted(self):
        chance = random.Random(77)
        for line, _, frames in cases(60, seed=77):
            for network in [Network(line), AgeingNetwork(line, age=chance.randint(1, 6))]:
                steps = [shown(network)]
                for part in in_parts(chance, frames):
                    if len(part) == 1:
                        network.send(*part[0])
                    else:
                        network.send_all(*part)
                    steps.append(shown(network))
                for step in reversed(steps):
                    self.assertEqual(shown(network), step)
                    self.assertEqual(raised(network.undo), NothingToUndo if step is steps[0] else None)

    def test_behind_the_last_change(self):
        for network in both():
            network.send_all(*F)
            network.undo()
            for _ in range(3):
                self.assertEqual(raised(network.undo), NothingToUndo)
                self.assertEqual(shown(network)[1:4], (SILENT, [], 0))
            self.assertEqual(network.send_all(*F[:2]), ["all", "direct"])
            network.undo()
            self.assertEqual(raised(network.undo), NothingToUndo)

    def test_behind_an_error(self):
        for network in both():
            network.send("a", "b")
            raised(network.send, "a", "a")
            raised(network.send_all, ("b", "a"), ("b", "d"))
            raised(network.tried, ("b", "d"))
            network.undo()
            self.assertEqual(raised(network.undo), NothingToUndo)

    def test_to_go_on_behind_an_undo(self):
        network = Network(N)
        network.send_all(*F[:2])
        network.send("c", "b")
        network.undo()
        self.assertEqual(network.send("c", "a"), "direct")
        self.assertEqual(network.frames, F[:2] + [("c", "a")])
        network.undo()
        network.undo()
        self.assertEqual(raised(network.undo), NothingToUndo)


class TwinTest(unittest.TestCase):
    def test_same_class_and_all_that_is_shown(self):
        for network in both():
            for frame in [None] + F:
                if frame:
                    network.send(*frame)
                twin = network.twin()
                self.assertIs(type(twin), type(network))
                self.assertIsNot(twin, network)
                self.assertEqual(shown(twin), shown(network))
                self.assertEqual(undone(twin), undone(network))
                self.assertEqual(twin, network)

    def test_independent(self):
        for network in both():
            network.send_all(*F[:2])
            twin = network.twin()
            before = undone(network)
            twin.send_all(*F[2:])
            twin.undo()
            twin.undo()
            self.assertEqual(raised(twin.undo), NothingToUndo)
            twin.send("c", "a")
            self.assertEqual(undone(network), before)
            before = undone(twin)
            network.send("b", "c")
            network.undo()
            network.undo()
            self.assertEqual(raised(network.undo), NothingToUndo)
            self.assertEqual(undone(twin), before)

    def test_a_change_of_several_frames_stays_one(self):
        network = Network(N)
        network.send_all(*F[:3])
        network.send(*F[3])
        twin = network.twin()
        twin.undo()
        self.assertEqual(len(twin), 3)
        twin.undo()
        self.assertEqual(len(twin), 0)

    def test_own_classes(self):
        class Own(Network):
            pass

        class OwnAgeing(AgeingNetwork):
            pass

        for network in [Own(N), OwnAgeing(N, age=3)]:
            network.send_all(*F)
            twin = network.twin()
            self.assertIs(type(twin), type(network))
            self.assertEqual(shown(twin), shown(network))
            self.assertIs(type(type(network).from_record(N, R)), type(network))


class EqualTest(unittest.TestCase):
    def assert_equal(self, one, other, expected):
        self.assertIs(one == other, expected)
        self.assertIs(other == one, expected)
        self.assertIs(one != other, not expected)

    def test_line_and_frames(self):
        one, other = Network(N), Network(reordered(N)[1])
        self.assert_equal(one, other, True)
        one.send_all(*F)
        self.assert_equal(one, other, False)
        for frame in F:
            other.send(*frame)
        self.assert_equal(one, other, True)
        other.undo()
        self.assert_equal(one, other, False)
        other.send("b", "a")
        self.assert_equal(one, other, False)

    def test_other_lines(self):
        for line in [{"a": 0, "b": 5}, {**N, "d": 12}, {**N, "c": 8}, {"a": 5, "b": 0, "c": 9},
                     {"a": 0, "b": 5, "d": 9}]:
            self.assert_equal(Network(N), Network(line), False)
            self.assert_equal(AgeingNetwork(N), AgeingNetwork(line), False)

    def test_the_same_state_by_other_frames(self):
        one, other = Network(N), Network(N)
        one.send_all(("a", "b"), ("a", "c"))
        other.send_all(("a", "c"), ("a", "b"))
        self.assertEqual(one.known, other.known)
        self.assert_equal(one, other, False)

    def test_changes_to_undo_do_not_count(self):
        one, other = Network(N), Network(N)
        one.send_all(("a", "b"), ("b", "a"))
        other.send("a", "b")
        other.send("b", "a")
        self.assert_equal(one, other, True)

    def test_other_classes(self):
        class Own(Network):
            pass

        for frames in [[], F]:
            networks = [Network(N), AgeingNetwork(N), AgeingNetwork(N, age=300), AgeingNetwork(N, age=9), Own(N)]
            for network in networks:
                network.send_all(*frames)
            for at, one in enumerate(networks):
                for other in networks[at + 1:]:
                    self.assert_equal(one, other, False)
                self.assert_equal(one, one, True)
                self.assert_equal(one, one.twin(), True)

    def test_ages(self):
        self.assert_equal(AgeingNetwork(N), AgeingNetwork(N, age=10), True)
        self.assert_equal(AgeingNetwork(N, age=9), AgeingNetwork(N, age=10), False)
        one, other = AgeingNetwork(N, age=4), AgeingNetwork(N, age=4)
        one.send("a", "b")
        self.assert_equal(one, other, False)
        other.send("a", "b")
        self.assert_equal(one, other, True)

    def test_other_values(self):
        for network in both():
            network.send_all(*F)
            for value in ODD_VALUES + [N, F, network.known, network.frames, shown(network), (N, F), type(network)]:
                self.assert_equal(network, value, False)

    def test_an_empty_network_beside_empty_values(self):
        for network in both():
            for value in [0, None, "", [], {}, (), False, set(), N]:
                self.assert_equal(network, value, False)


class PropertyTest(unittest.TestCase):
    def test_new_each_time(self):
        for network in both():
            for _ in range(2):
                before = undone(network)
                network.known["a"] = "x"
                network.known.clear()
                network.line["a"] = 3
                network.line.clear()
                network.frames.append("x")
                network.frames.clear()
                self.assertEqual(undone(network), before)
                self.assertIsNot(network.known, network.known)
                self.assertIsNot(network.line, network.line)
                self.assertIsNot(network.frames, network.frames)
                network.send_all(*F)

    def test_results_of_methods_are_new(self):
        network = Network(N)
        tried, kinds = network.tried(*F), network.send_all(*F)
        tried.append("x")
        kinds.append("x")
        self.assertEqual(network.frames, F)
        self.assertEqual(network.tried(*F), ["direct"] * 4)

    def test_kinds_of_values(self):
        for network in both():
            network.send_all(*F)
            self.assertIs(type(network.known), dict)
            self.assertIs(type(network.line), dict)
            self.assertIs(type(network.frames), list)
            self.assertEqual({type(frame) for frame in network.frames}, {tuple})
            self.assertEqual({type(interval) for interval in network.known.values() if interval is not None}, {tuple})
            self.assertIs(type(network.send_all(*F)), list)

    def test_keys_ascend(self):
        line = {"c": 0, "ab": 7, "b": -1, "a": 3, "aa": 20}
        for other in reordered(line):
            for network in [Network(other), AgeingNetwork(other, age=2)]:
                for _ in range(2):
                    self.assertEqual(list(network.line), ["a", "aa", "ab", "b", "c"])
                    self.assertEqual(list(network.known), ["a", "aa", "ab", "b", "c"])
                    network.send_all(("c", "a"), ("b", "c"), ("a", "c"))
                network.undo()
                self.assertEqual(list(network.known), ["a", "aa", "ab", "b", "c"])
                self.assertEqual(list(network.twin().known), ["a", "aa", "ab", "b", "c"])

    def test_they_cannot_be_assigned(self):
        for network in both():
            for name in ["known", "frames", "line"]:
                self.assertEqual(raised(setattr, network, name, 1), AttributeError)

    def test_arguments_do_not_change(self):
        for make in [Network, AgeingNetwork]:
            self.assertTrue(unchanged(make, {"c": 9, "a": 0, "b": 5}))
            record = {"c": [("b", "flood")], "a": [("b", "all")], "b": [("a", "direct"), ("c", "direct")]}
            self.assertTrue(unchanged(make.from_record, {"c": 9, "a": 0, "b": 5}, record))

    def test_what_was_returned_may_be_passed_back(self):
        network = Network(N)
        network.send_all(*F)
        self.assertEqual(kinds_of(network.line, network.frames, start=network.known), ["direct"] * 4)
        self.assertEqual(network.send_all(*network.frames), ["direct"] * 4)


class AgeingTest(unittest.TestCase):
    def test_examples(self):
        ageing = AgeingNetwork(N, age=1)
        self.assertEqual(ageing.send_all(("a", "b"), ("b", "a"), ("b", "a")), ["all", "direct", "all"])
        self.assertEqual(ageing.known, {"a": None, "b": (None, None), "c": None})

    def test_it_is_derived_from_network(self):
        self.assertEqual(AgeingNetwork.__bases__, (Network,))
        self.assertIsInstance(AgeingNetwork(N), Network)

    def test_the_age(self):
        self.assertEqual(AgeingNetwork(N).age, 10)
        for age in [1, 2, 10, 299, 300]:
            self.assertEqual(AgeingNetwork(N, age=age).age, age)
        for age in NO_AGES:
            with self.subTest(repr(age)[:50]):
                self.assertEqual(raised(AgeingNetwork, N, age=age), InvalidNumber)
        self.assertEqual(raised(AgeingNetwork, N, 10), TypeError)
        self.assertEqual(raised(Network, N, age=10), TypeError)
        self.assertEqual(raised(setattr, AgeingNetwork(N), "age", 3), AttributeError)
        self.assertFalse(hasattr(Network(N), "age"))

    def test_known_is_the_state_of_the_next_frame(self):
        ageing = AgeingNetwork(N, age=2)
        ageing.send("a", "b")
        self.assertEqual(ageing.known["a"], (None, None))
        ageing.send("b", "a")
        self.assertEqual(ageing.known, {"a": (None, None), "b": (0, 5), "c": None})
        ageing.send("c", "b")
        self.assertEqual(ageing.known, {"a": None, "b": (0, 5), "c": (5, None)})
        ageing.send("c", "a")
        self.assertEqual(ageing.known, {"a": None, "b": None, "c": (None, None)})

    def test_a_host_keeps_its_whole_interval_or_nothing(self):
        ageing = AgeingNetwork({"a": 0, "b": 5, "c": 9, "d": 20}, age=2)
        ageing.send_all(("a", "b"), ("b", "a"), ("a", "b"), ("b", "a"), ("a", "b"))
        self.assertEqual(ageing.known["a"], (None, None))
        ageing.send_all(("b", "a"), ("b", "a"))
        self.assertEqual(ageing.known, {"a": None, "b": (0, 5), "c": None, "d": None})
        # The interval begins anew when the host sends again.
        self.assertEqual(ageing.send("a", "b"), "direct")
        self.assertEqual(ageing.known["a"], (0, 5))

    def test_a_sender_is_forgotten_before_its_own_frame(self):
        ageing = AgeingNetwork(N, age=1)
        ageing.send_all(("a", "b"), ("b", "a"))
        self.assertEqual(ageing.send("a", "b"), "direct")
        self.assertEqual(ageing.known, {"a": (0, 5), "b": None, "c": None})

    def test_a_target_is_forgotten_in_time(self):
        for age in [1, 2, 3, 10, 299, 300]:
            ageing = AgeingNetwork(N, age=age)
            ageing.send("a", "b")
            kinds = [ageing.tried(("c", "a"))[0]]
            for _ in range(age):
                ageing.send("b", "c")
                kinds += ageing.tried(("c", "a"))
            self.assertEqual(kinds, ["direct"] * age + ["all"])

    def test_frames_played_one_by_one(self):
        for age in [1, 2, 3, 5, 10, 300]:
            for line, _, frames in cases(30, seed=78 + age):
                frames = frames * 2
                kinds, states = played(line, frames, age)
                ageing = AgeingNetwork(line, age=age)
                for at, frame in enumerate(frames):
                    self.assertEqual(ageing.known, states[at])
                    self.assertEqual(ageing.tried(*frames[at:]), kinds[at:])
                    self.assertEqual(ageing.send(*frame), kinds[at])
                self.assertEqual(ageing.known, states[-1])
                self.assertEqual(AgeingNetwork(line, age=age).send_all(*frames), kinds)

    def test_switches_that_forget(self):
        for age in [1, 2, 4]:
            for line, _, frames in cases(25, seed=90 + age):
                ageing = AgeingNetwork(line, age=age)
                switches = Switches(line)
                for at, frame in enumerate(frames):
                    for host in line:
                        if host not in [sender for sender, _ in frames[:at][-age:]]:
                            switches.forget(host)
                        interval = ageing.known[host]
                        knowing = [to for to in switches.positions if interval is not None and holds(interval, to)]
                        self.assertEqual(switches.knowing(host), knowing)
                    switches.send(*frame)
                    ageing.send(*frame)

    def test_an_age_not_less_than_the_number_of_frames(self):
        for line, _, frames in cases(60, seed=95):
            for age in [max(len(frames), 1), len(frames) + 1, 300]:
                network, ageing = Network(line), AgeingNetwork(line, age=age)
                self.assertEqual(ageing.send_all(*frames), network.send_all(*frames))
                self.assertEqual(shown(ageing)[:4], shown(network)[:4])

    def test_more_than_three_hundred_frames(self):
        chance = random.Random(96)
        line = random_line(chance, 8)
        frames = random_frames(chance, line, 324)
        for age in [1, 10, 299, 300]:
            ageing = AgeingNetwork(line, age=age)
            kinds = []
            for at in range(0, 324, 12):
                kinds += ageing.send_all(*frames[at:at + 12])
            self.assertEqual((kinds, ageing.known), (played(line, frames, age)[0], played(line, frames, age)[1][-1]))
            self.assertEqual(len(ageing), 324)

    def test_undo_brings_back_what_was_forgotten(self):
        ageing = AgeingNetwork(N, age=1)
        ageing.send("a", "b")
        ageing.send("b", "a")
        ageing.send("b", "c")
        self.assertEqual(ageing.known, {"a": None, "b": (None, None), "c": None})
        ageing.undo()
        self.assertEqual(ageing.known, {"a": None, "b": (0, 5), "c": None})
        ageing.undo()
        self.assertEqual(ageing.known, {"a": (None, None), "b": None, "c": None})
        self.assertEqual(ageing.send("b", "a"), "direct")

    def test_twin_has_the_same_age(self):
        for age in [1, 2, 9, 11, 300]:
            ageing = AgeingNetwork(N, age=age)
            self.assertEqual(ageing.twin().age, age)
            ageing.send_all(*F)
            twin = ageing.twin()
            self.assertEqual((twin.age, shown(twin)), (age, shown(ageing)))
            self.assertEqual(twin.send_all(*F * 2), ageing.send_all(*F * 2))
            self.assertEqual(shown(twin), shown(ageing))


class FromRecordTest(unittest.TestCase):
    def test_the_least_history_is_sent(self):
        network = Network.from_record(N, R)
        self.assertEqual((network.frames, network.known, network.line), (F, AFTER_F, N))
        for other, same in zip(reordered(N), reordered(R)):
            self.assertEqual(Network.from_record(other, same), network)
        for line, _, record, _ in possible_cases(60, 14, seed=97):
            for make, age in [(Network, None), (AgeingNetwork, 10)]:
                frames = sent_frames(record, least_history(line, record))
                network = make.from_record(line, record)
                self.assertIs(type(network), make)
                self.assertEqual(network.frames, frames)
                self.assertEqual(network.known, played(line, frames, age)[1][-1])
                self.assertEqual(network.line, line)

    def test_one_by_one(self):
        for make in [Network, AgeingNetwork]:
            network = make.from_record(N, R)
            for many in [3, 2, 1, 0]:
                network.undo()
                self.assertEqual(network.frames, F[:many])
            self.assertEqual(raised(network.undo), NothingToUndo)

    def test_with_send(self):
        for base in [Network, AgeingNetwork]:
            class Own(base):
                def send(self, sender, target):
                    calls.append((sender, target))
                    return base.send(self, sender, target)

            calls = []
            network = Own.from_record(N, R)
            self.assertIs(type(network), Own)
            self.assertEqual((calls, network.frames), (F, F))

    def test_the_default_age_and_other_kinds_than_recorded(self):
        line = {"a": 0, "b": 5, "c": 9}
        record = {"a": [("b", "all")] * 2, "b": [("c", "all")] * 11, "c": [("a", "direct")]}
        network, ageing = Network.from_record(line, record), AgeingNetwork.from_record(line, record)
        self.assertEqual(ageing.age, 10)
        self.assertEqual(network.frames, ageing.frames)
        self.assertEqual(network.frames[-1], ("c", "a"))
        ageing.undo()
        network.undo()
        self.assertEqual((network.tried(("c", "a")), ageing.tried(("c", "a"))), (["direct"], ["all"]))

    def test_no_frames_and_two_hundred_frames(self):
        self.assertEqual(Network.from_record(N, EMPTY), Network(N))
        self.assertEqual(AgeingNetwork.from_record(N, EMPTY), AgeingNetwork(N))
        record = record_of(N, F * 50)
        network = Network.from_record(N, record)
        self.assertEqual(len(network), 200)
        self.assertEqual(record_of(N, network.frames), record)

    def test_errors(self):
        for make in [Network, AgeingNetwork]:
            for line in NO_LINES:
                self.assertEqual(raised(make.from_record, line, R), InvalidLine)
                self.assertEqual(raised(make.from_record, line, None), InvalidLine)
            for record in NO_RECORDS:
                self.assertEqual(raised(make.from_record, N, record), InvalidRecord)
            for line, record in IMPOSSIBLE:
                error = error_of(make.from_record, line, record)
                self.assertIs(type(error), Contradiction)
                self.assertEqual(error.reason, fault_in(line, record))


class AnyCallsTest(unittest.TestCase):
    """Calls that are drawn, against a list of the changes that were not reverted."""

    def test_any_calls(self):
        chance = random.Random(98)
        for _ in range(60):
            line = random_line(chance, chance.randint(2, 6))
            age = chance.choice([None, None, 1, 2, 3, 7])
            network = Network(line) if age is None else AgeingNetwork(line, age=age)
            self.play(chance, line, age, network, [])

    def play(self, chance, line, age, network, changes):
        for _ in range(30):
            frames = random_frames(chance, line, chance.randint(0, 4))
            sent = [frame for change in changes for frame in change]
            expected = played(line, sent + frames, age)[0][len(sent):]
            call = chance.choice(["send", "send_all", "send_all", "tried", "undo", "undo", "twin", "wrong"])
            if call == "send" and frames:
                self.assertEqual(network.send(*frames[0]), expected[0])
                changes = changes + [frames[:1]]
            elif call == "send_all":
                self.assertEqual(network.send_all(*frames), expected)
                changes = changes + [frames] if frames else changes
            elif call == "tried":
                self.assertEqual(network.tried(*frames), expected)
            elif call == "undo":
                self.assertEqual(raised(network.undo), None if changes else NothingToUndo)
                changes = changes[:-1]
            elif call == "twin":
                network = chance.choice([network, network.twin()])
            else:
                self.assertRaises(FloodError, network.send_all, *frames, ("a", "a"))
            sent = [frame for change in changes for frame in change]
            self.assertEqual((network.frames, len(network)), (sent, len(sent)))
            self.assertEqual(network.known, played(line, sent, age)[1][-1])


class DefinitionTest(unittest.TestCase):
    def test_classes_are_defined_in_this_file(self):
        for name in ["Network", "AgeingNetwork"]:
            self.assertEqual(getattr(live, name).__module__, "floodline.live")

    def test_what_is_listed_is_defined_in_the_class_itself(self):
        for name in ["send", "send_all", "tried", "undo", "twin", "__len__", "__eq__"]:
            self.assertIn(name, vars(Network))
        for name in ["known", "frames", "line"]:
            self.assertIsInstance(vars(Network)[name], property)
        for name in ["known", "age"]:
            self.assertIsInstance(vars(AgeingNetwork)[name], property)
        for make in [Network, AgeingNetwork]:
            self.assertIsInstance(vars(make)["from_record"], classmethod)


if __name__ == "__main__":
    unittest.main()
