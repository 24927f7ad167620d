"""The whole program: its parts agree with one another, also about a line that is renamed, mirrored or moved."""

import itertools
import random
import unittest

from floodline.console import Console
from floodline.errors import NothingToUndo
from floodline.frames import heard_at, kind_of, kinds_of, known_after, reach_of
from floodline.histories import count_histories, is_history, least_history, nth_history, places_of, reversed_history
from floodline.histories import surely_before
from floodline.lines import in_order, is_line, is_quiet, is_state, lacking
from floodline.live import AgeingNetwork, Network
from floodline.ports import heard_by, knew, log_at
from floodline.quiet import fewest_frames, is_quiet_plan, quiet_plan
from floodline.records import fault_in, needs_of, record_of, shows_fault
from floodline.rounds import kinds_in_round, load_after
from floodline.texts import format_frames, format_line, parse_frames, parse_line
from tests.recordings import any_cases, order_of, possible_cases, recorded, sent_frames, tried_histories
from tests.samples import FAR, N, cases, host_names, raised, random_frames, random_line
from tests.switches import Switches
from tests.test_console import ends_text


def places_around(line):
    return range(min(line.values()) - 2, max(line.values()) + 3)


class AgreementTest(unittest.TestCase):
    """Functions, networks, consoles and texts tell the same of the same frames."""

    def test_kinds_states_and_fewest_frames(self):
        for line, _, frames in cases(50, seed=131):
            network, console = Network(line), Console()
            self.assertEqual(console.execute("line " + format_line(line)), "ok")
            kinds = kinds_of(line, frames)
            for at, (sender, target) in enumerate(frames):
                known = known_after(line, frames[:at])
                self.assert_state(network, console, line, known)
                for other in line:
                    if other != target:
                        kind = kind_of(line, known, other, target)
                        self.assertEqual(network.tried((other, target)), [kind])
                        self.assertEqual(console.execute(f"kind {other} {target}"), kind)
                self.assertEqual(network.send(sender, target), kinds[at])
                self.assertEqual(console.execute(f"send {sender} {target}"), kinds[at])
            self.assert_state(network, console, line, known_after(line, frames))

    def assert_state(self, network, console, line, known):
        self.assertEqual(network.known, known)
        self.assertIs(is_state(line, known), True)
        for host in line:
            self.assertEqual(console.execute("known " + host), ends_text(known[host]))
        self.assertEqual(console.execute("quiet"), "yes" if is_quiet(network.line, network.known) else "no")
        self.assertEqual(console.execute("fewest"), str(fewest_frames(network.line, network.known)))
        self.assertEqual(console.execute("frames"), format_frames(network.line, network.frames) or "-")

    def test_texts(self):
        for line, _, frames in cases(50, seed=132):
            same = parse_line(format_line(line))
            self.assertEqual(same, line)
            self.assertEqual(in_order(same), [word.split("@")[0] for word in format_line(line).split(" ")])
            network = Network(same)
            kinds = network.send_all(*parse_frames(same, format_frames(line, frames)))
            self.assertEqual((network.frames, kinds), (frames, kinds_of(line, frames)))

    def test_a_quiet_plan_is_quiet_in_a_network_and_a_console(self):
        for line, _, frames in cases(60, seed=133):
            network, console = Network(line), Console()
            console.execute("line " + format_line(line))
            for frame in frames:
                network.send(*frame)
                console.execute("send {} {}".format(*frame))
            plan = quiet_plan(line, network.known)
            self.assertEqual(console.execute("fewest"), str(len(plan)))
            self.assertIs(is_quiet_plan(line, network.known, plan), True)
            for frame in plan:
                self.assertEqual(console.execute("quiet"), "no")
                network.send(*frame)
                console.execute("send {} {}".format(*frame))
            self.assertIs(is_quiet(line, network.known), True)
            self.assertEqual((console.execute("quiet"), console.execute("fewest")), ("yes", "0"))
            everything = list(itertools.permutations(line, 2))
            self.assertEqual(network.tried(*everything), ["direct"] * len(everything))

    def test_quiet_exactly_if_all_frames_would_be_direct(self):
        for line, _, frames in cases(80, seed=134):
            network = Network(line)
            network.send_all(*frames)
            kinds = {network.tried(frame)[0] for frame in itertools.permutations(line, 2)}
            self.assertIs(is_quiet(line, network.known), kinds == {"direct"})
            self.assertEqual(fewest_frames(line, network.known) == 0, kinds == {"direct"})

    def test_rounds(self):
        for line, _, frames in cases(50, seed=135):
            network = Network(line)
            first = network.send_all(*frames)
            known = network.known
            self.assertEqual(kinds_in_round(line, frames, 0), first)
            for number in [1, 2, 3]:
                later = network.send_all(*frames)
                self.assertEqual(kinds_in_round(line, frames, number), later)
                self.assertEqual(network.known, known)
            self.assertEqual(kinds_in_round(line, frames, FAR), later)
            for position in places_around(line):
                heard = len(heard_at(line, network.frames, position))
                self.assertEqual(load_after(line, frames, 4, position), heard)

    def test_switches_one_by_one(self):
        for line, _, frames in cases(40, seed=136):
            switches, network = Switches(line), Network(line)
            for at, frame in enumerate(frames):
                reach = reach_of(line, network.known, *frame)
                reached = switches.send(*frame)
                network.send(*frame)
                self.assertEqual(reached, [to for to in switches.positions if ends_hold(reach, to)])
                for to in list(places_around(line)):
                    self.assertEqual(at in heard_at(line, network.frames, to), to in reached)


def ends_hold(reach, position):
    low, high = reach
    return (low is None or low <= position) and (high is None or position <= high)


class RecordTest(unittest.TestCase):
    """Networks, records, histories and listeners tell the same of the same frames."""

    def test_the_record_of_a_network(self):
        for line, frames, record, _ in possible_cases(60, 12, seed=137):
            network = Network(line)
            network.send_all(*frames)
            order = order_of(frames)
            self.assertEqual(record_of(network.line, network.frames), record)
            self.assertIsNone(fault_in(line, record))
            self.assertIs(is_history(line, record, order), True)
            for first, second in needs_of(line, record):
                self.assertLess(order.index(first), order.index(second))
            for at, frame in enumerate(order):
                low, high = places_of(line, record, frame)
                self.assertTrue(low <= at <= high)

    def test_networks_from_records(self):
        for line, frames, record, _ in possible_cases(60, 12, seed=138):
            network = Network.from_record(line, record)
            self.assertEqual(network.frames, sent_frames(record, least_history(line, record)))
            self.assertEqual(record_of(line, network.frames), record)
            self.assertEqual(network.known, known_after(line, frames))
            ageing = AgeingNetwork.from_record(line, record)
            self.assertEqual(ageing.frames, network.frames)
            if len(frames) <= 10:
                self.assertEqual(ageing.known, network.known)
            self.assertEqual(Network.from_record(line, record_of(line, network.frames)), network)

    def test_each_history_gives_the_same_record_and_state(self):
        for line, frames, record, _ in possible_cases(40, 6, seed=139):
            known = known_after(line, frames)
            found = [nth_history(line, record, at) for at in range(count_histories(line, record))]
            self.assertEqual(found, tried_histories(line, record))
            for order in found:
                sent = sent_frames(record, order)
                self.assertEqual((record_of(line, sent), known_after(line, sent)), (record, known))
                network = Network(line)
                self.assertEqual(network.send_all(*sent), [record[host][index][1] for host, index in order])

    def test_surely_before_and_reversed_histories(self):
        for line, _, record, ports in possible_cases(40, 7, seed=140):
            for one, other in itertools.permutations(recorded(record), 2):
                reverse = reversed_history(line, record, one, other, ports=ports)
                self.assertIs(surely_before(line, record, one, other, ports=ports), reverse is None)
                if reverse is not None:
                    self.assertIs(is_history(line, record, reverse, ports=ports), True)
                    self.assertLess(reverse.index(other), reverse.index(one))

    def test_listeners(self):
        for line, frames, record, _ in possible_cases(40, 10, seed=141):
            order = order_of(frames)
            for position in places_around(line):
                heard = [order[at] for at in heard_at(line, frames, position)]
                self.assertEqual(log_at(line, record, order, position), heard)
                self.assertEqual(heard_by(line, record, position), sorted(heard))
                self.assertEqual(load_after(line, frames, 1, position), len(heard))

    def test_what_a_switch_knew_in_fact(self):
        words = set()
        for line, frames, record, _ in possible_cases(40, 7, seed=142):
            order = order_of(frames)
            all_logs = {at: log_at(line, record, order, at) for at in list(line.values())}
            for at, frame in enumerate(order):
                known = known_after(line, frames[:at])
                for position, host in itertools.product([line[frames[at][0]], line[frames[at][1]]], line):
                    if at in heard_at(line, frames, position):
                        in_fact = known[host] is not None and ends_hold(known[host], position)
                        for ports in [None, all_logs]:
                            answer = knew(line, record, position, frame, host, ports=ports)
                            self.assertIn(answer, ["possibly", "surely" if in_fact else "never"])
                            words.add(answer)
                        own = {position: log_at(line, record, order, position)}
                        # A listener at the switch itself knows which frames came before this one.
                        answer = knew(line, record, position, frame, host, ports=own)
                        self.assertEqual(answer, "surely" if in_fact else "never")
        self.assertEqual(words, {"surely", "possibly", "never"})

    def test_surely_known_targets_are_direct_and_never_known_ones_are_not(self):
        for line, _, record, _ in possible_cases(40, 10, seed=143):
            for host, index in recorded(record):
                target, kind = record[host][index]
                answer = knew(line, record, line[host], (host, index), target)
                self.assertEqual(answer, "surely" if kind == "direct" else "never")


class RevertTest(unittest.TestCase):
    def test_everything_can_be_reverted(self):
        chance = random.Random(144)
        for line, _, frames in cases(50, seed=144):
            networks = [Network(line), AgeingNetwork(line, age=3)]
            console = Console()
            console.execute("line " + format_line(line))
            states = []
            for frame in frames:
                states.append([(network.known, network.frames) for network in networks] + [self.told(console, line)])
                for network in networks:
                    network.send_all(frame) if chance.random() < 0.5 else network.send(*frame)
                console.execute("send {} {}".format(*frame))
            for state in reversed(states):
                for network in networks:
                    network.undo()
                self.assertEqual(console.execute("undo"), "ok")
                now = [(network.known, network.frames) for network in networks] + [self.told(console, line)]
                self.assertEqual(now, state)
            self.assertEqual(networks, [Network(line), AgeingNetwork(line, age=3)])
            self.assertEqual([raised(network.undo) for network in networks], [NothingToUndo] * 2)
            self.assertEqual(raised(console.execute, "undo"), NothingToUndo)

    def told(self, console, line):
        rows = ["frames", "quiet", "fewest"] + ["known " + host for host in sorted(line)]
        return [console.execute(row) for row in rows]


class Change:
    """Other names of the hosts, and positions that are multiplied, mirrored if the factor is negative, and moved."""

    def __init__(self, chance, line, factor, offset, renamed=True):
        names = host_names(60)
        chance.shuffle(names)
        self.names = {host: names[at] if renamed else host for at, host in enumerate(line)}
        self.factor = factor
        self.offset = offset

    def place(self, position):
        return position * self.factor + self.offset

    def line(self, line):
        return {self.names[host]: self.place(position) for host, position in line.items()}

    def interval(self, interval):
        if interval is None:
            return None
        low, high = [None if end is None else self.place(end) for end in interval]
        return (low, high) if self.factor > 0 else (high, low)

    def state(self, state):
        return {self.names[host]: self.interval(interval) for host, interval in state.items()}

    def frames(self, frames):
        return [(self.names[sender], self.names[target]) for sender, target in frames]

    def record(self, record):
        return {self.names[host]: [(self.names[target], kind) for target, kind in items]
                for host, items in record.items()}

    def frame(self, frame):
        return (self.names[frame[0]], frame[1])

    def order(self, order):
        return [self.frame(frame) for frame in order]

    def ports(self, ports):
        return {self.place(position): self.order(log) for position, log in ports.items()}


def changes(chance, line):
    """Return changes of each kind on its own and all at once; the last ones lead to the limits."""
    span = max(abs(position) for position in line.values()) + 3
    far = (FAR // 2) // span
    return [Change(chance, line, 1, 0), Change(chance, line, -1, 0, False), Change(chance, line, 7, 0, False),
            Change(chance, line, 1, -10 ** 20, False), Change(chance, line, -3, 11),
            Change(chance, line, far, FAR // 2), Change(chance, line, -far, -FAR // 2)]


class ChangedLineTest(unittest.TestCase):
    """The same answers with other names, and with all positions mirrored, multiplied and moved."""

    def test_frames_and_states(self):
        chance = random.Random(145)
        for line, state, frames in cases(25, seed=145):
            for change in changes(chance, line):
                other, known, sent = change.line(line), change.state(state), change.frames(frames)
                self.assertIs(is_line(other), True)
                self.assertIs(is_state(other, known), True)
                order = [change.names[host] for host in in_order(line)]
                self.assertEqual(in_order(other), order if change.factor > 0 else order[::-1])
                self.assertEqual(set(lacking(other, known)), {change.names[host] for host in lacking(line, state)})
                self.assertIs(is_quiet(other, known), is_quiet(line, state))
                self.assertEqual(fewest_frames(other, known), fewest_frames(line, state))
                self.assertIs(is_quiet_plan(other, known, change.frames(quiet_plan(line, state))), True)
                self.assertEqual(kinds_of(other, sent, start=known), kinds_of(line, frames, start=state))
                after = known_after(line, frames, start=state)
                self.assertEqual(known_after(other, sent, start=known), change.state(after))
                for sender, target in itertools.permutations(line, 2):
                    reach = reach_of(other, known, change.names[sender], change.names[target])
                    self.assertEqual(reach, change.interval(reach_of(line, state, sender, target)))
                for position in places_around(line):
                    place = change.place(position)
                    heard = heard_at(line, frames, position, start=state)
                    self.assertEqual(heard_at(other, sent, place, start=known), heard)
                    self.assertEqual(load_after(other, sent, FAR, place), load_after(line, frames, FAR, position))
                self.assertEqual(kinds_in_round(other, sent, 1), kinds_in_round(line, frames, 1))

    def test_records(self):
        chance = random.Random(146)
        for line, record, ports in any_cases(40, 7, seed=146):
            for change in changes(chance, line):
                other, same, logs = change.line(line), change.record(record), change.ports(ports)
                needs = [(change.frame(first), change.frame(second))
                         for first, second in needs_of(line, record, ports=ports)]
                self.assertEqual(needs_of(other, same, ports=logs), sorted(needs))
                fault = fault_in(line, record, ports=ports)
                self.assertIs(fault_in(other, same, ports=logs) is None, fault is None)
                if fault is not None:
                    word, shown = fault
                    shown = change.order(shown) if word == "ring" else change.frame(shown)
                    self.assertIs(shows_fault(other, same, (word, shown), ports=logs), True)
                for position in places_around(line):
                    heard = sorted(change.order(heard_by(line, record, position)))
                    self.assertEqual(heard_by(other, same, change.place(position)), heard)

    def test_histories_and_listeners(self):
        chance = random.Random(147)
        for line, frames, record, ports in possible_cases(20, 6, seed=147):
            everything = tried_histories(line, record, ports)
            for change in changes(chance, line):
                other, same, logs = change.line(line), change.record(record), change.ports(ports)
                many = count_histories(other, same, ports=logs)
                found = [nth_history(other, same, at, ports=logs) for at in range(many)]
                self.assertEqual(found, sorted(map(change.order, everything)))
                for frame in recorded(record):
                    self.assertEqual(places_of(other, same, change.frame(frame), ports=logs),
                                     places_of(line, record, frame, ports=ports))
                for one, later in itertools.permutations(recorded(record)[:4], 2):
                    self.assertIs(surely_before(other, same, change.frame(one), change.frame(later), ports=logs),
                                  surely_before(line, record, one, later, ports=ports))
                for position in places_around(line):
                    log = log_at(line, record, order_of(frames), position)
                    place = change.place(position)
                    self.assertEqual(log_at(other, same, change.order(order_of(frames)), place), change.order(log))
                    for frame, host in itertools.product(log[:2], line):
                        self.assertEqual(knew(other, same, place, change.frame(frame), change.names[host], ports=logs),
                                         knew(line, record, position, frame, host, ports=ports))

    def test_networks_and_consoles(self):
        chance = random.Random(148)
        for line, _, frames in cases(20, seed=148):
            for change in changes(chance, line):
                sent = change.frames(frames)
                pairs = [(Network(line), Network(change.line(line))),
                         (AgeingNetwork(line, age=2), AgeingNetwork(change.line(line), age=2))]
                for network, other in pairs:
                    self.assertEqual(other.send_all(*sent), network.send_all(*frames))
                    self.assertEqual(other.known, change.state(network.known))
                console = Console()
                console.execute("line " + format_line(change.line(line)))
                for (sender, target), kind in zip(sent, kinds_of(line, frames)):
                    self.assertEqual(console.execute(f"send {sender} {target}"), kind)
                known = known_after(line, frames)
                self.assertEqual(console.execute("fewest"), str(fewest_frames(line, known)))
                for host in line:
                    expected = ends_text(change.interval(known[host]))
                    self.assertEqual(console.execute("known " + change.names[host]), expected)

    def test_names_in_the_same_order_keep_what_is_least(self):
        for line, frames, record, _ in possible_cases(20, 8, seed=149):
            names = {host: "x" + host for host in line}
            other = {names[host]: position for host, position in line.items()}
            same = record_of(other, [(names[sender], names[target]) for sender, target in frames])
            self.assertEqual(least_history(other, same),
                             [(names[host], index) for host, index in least_history(line, record)])


class LargeTest(unittest.TestCase):
    def test_forty_hosts_and_three_hundred_frames(self):
        chance = random.Random(150)
        line = random_line(chance, 40)
        frames = random_frames(chance, line, 300)
        network, console = Network(line), Console()
        console.execute("line " + format_line(line))
        kinds = [network.send(*frame) for frame in frames]
        self.assertEqual(kinds, [console.execute("send {} {}".format(*frame)) for frame in frames])
        self.assertEqual(kinds, kinds_of(line, frames))
        self.assertEqual(network.known, known_after(line, frames))
        self.assertEqual(parse_frames(line, console.execute("frames")), frames)
        record = record_of(line, frames[:200])
        again = Network.from_record(line, record)
        self.assertEqual(again.known, known_after(line, frames[:200]))
        self.assertEqual(record_of(line, again.frames), record)

    def test_many_rounds(self):
        frames = [("a", "b"), ("b", "a"), ("c", "b"), ("b", "c")]
        self.assertEqual(load_after(N, frames, FAR, 5), 4 * FAR)
        self.assertEqual(kinds_in_round(N, frames, FAR), Network(N).send_all(*frames * 2)[4:])


if __name__ == "__main__":
    unittest.main()
