"""All functions of the interface: points [2] and [3] hold for each parameter of each of them."""

import copy
import inspect
import itertools
import random
import unittest

from floodline import console, errors, frames, histories, lines, live, ports, quiet, records, rounds, texts
from floodline.errors import FloodError, InvalidFrame, InvalidFrames, InvalidHistory, InvalidHost, InvalidLine
from floodline.errors import InvalidNumber, InvalidPorts, InvalidPosition, InvalidRecord, InvalidState, InvalidText
from tests.recordings import F_ORDER, NO_FRAMES_OF_R, NO_PORTS_OF_R, NO_RECORDS, R
from tests.samples import AFTER_F, F, FAR, N, NO_HOSTS, NO_POSITIONS, ODD_VALUES, raised, reordered
from tests.test_frames import NO_FRAMES, NO_STATES
from tests.test_lines import NO_LINES
from tests.test_live import NO_AGES
from tests.test_ports import NO_HISTORIES_OF_R
from tests.test_texts import NO_STRINGS

NO_ROUNDS = [value for value in ODD_VALUES if repr(value) not in ("0", "1", str(FAR))] + [
    -1, -FAR, FAR + 1, 10 ** 39, "1", b"1", [0]]
PORTS = {5: F_ORDER, 0: F_ORDER[:2], -FAR: F_ORDER[:1]}

# Right values of the parameters, so that they fit to each other.
RIGHT = {"value": None, "line": N, "state": AFTER_F, "frames": F, "record": R, "history": F_ORDER, "sender": "c",
         "target": "b", "host": "b", "position": 5, "one": ("a", 0), "other": ("b", 0), "frame": ("c", 0), "number": 0,
         "count": 3, "start": AFTER_F, "ports": PORTS, "age": 10}

# What each parameter refuses, and with which error.
WRONG = {"line": (InvalidLine, NO_LINES), "state": (InvalidState, NO_STATES), "frames": (InvalidFrames, NO_FRAMES),
         "record": (InvalidRecord, NO_RECORDS), "history": (InvalidHistory, NO_HISTORIES_OF_R),
         "sender": (InvalidHost, NO_HOSTS + ["d"]), "target": (InvalidHost, NO_HOSTS + ["d"]),
         "host": (InvalidHost, NO_HOSTS + ["d"]), "position": (InvalidPosition, NO_POSITIONS),
         "one": (InvalidFrame, NO_FRAMES_OF_R), "other": (InvalidFrame, NO_FRAMES_OF_R),
         "frame": (InvalidFrame, NO_FRAMES_OF_R), "number": (InvalidNumber, NO_ROUNDS),
         "count": (InvalidNumber, NO_ROUNDS), "text": (InvalidText, NO_STRINGS),
         "start": (InvalidState, [state for state in NO_STATES if state is not None]),
         "ports": (InvalidPorts, NO_PORTS_OF_R), "age": (InvalidNumber, NO_AGES)}

# Each function with its parameters; those behind the star are passed by name.
FUNCTIONS = [
    (lines, "is_line", "value"), (lines, "is_state", "line value"), (lines, "is_frames", "line value"),
    (lines, "in_order", "line"), (lines, "lacking", "line state"), (lines, "is_quiet", "line state"),
    (frames, "kind_of", "line state sender target"), (frames, "reach_of", "line state sender target"),
    (frames, "switches_reached", "line state sender target"), (frames, "kinds_of", "line frames * start"),
    (frames, "known_after", "line frames * start"), (frames, "heard_at", "line frames position * start"),
    (rounds, "kinds_in_round", "line frames number"), (rounds, "load_after", "line frames count position"),
    (quiet, "fewest_frames", "line state"), (quiet, "quiet_plan", "line state"),
    (quiet, "is_quiet_plan", "line state value"),
    (records, "is_record", "line value"), (records, "record_of", "line frames"),
    (records, "needs_of", "line record * ports"), (records, "fault_in", "line record * ports"),
    (records, "shows_fault", "line record value * ports"),
    (histories, "is_history", "line record value * ports"), (histories, "least_history", "line record * ports"),
    (histories, "surely_before", "line record one other * ports"),
    (histories, "places_of", "line record frame * ports"),
    (histories, "reversed_history", "line record one other * ports"),
    (histories, "count_histories", "line record * ports"), (histories, "nth_history", "line record number * ports"),
    (ports, "heard_by", "line record position"), (ports, "log_at", "line record history position"),
    (ports, "knew", "line record position frame host * ports"),
    (texts, "format_line", "line"), (texts, "format_frames", "line frames"), (texts, "parse_line", "text"),
    (texts, "parse_frames", "line text")]

METHODS = {
    console.Console: {"__init__": "self", "execute": "self row"},
    live.Network: {"__init__": "self line", "send": "self sender target", "send_all": "self *frames", "undo": "self",
                   "tried": "self *frames", "twin": "self", "__len__": "self"},
    live.AgeingNetwork: {"__init__": "self line * age"}}


def called(function, values):
    """Call a function with a dict of values; a generator is asked for its first items."""
    named = {name: values[name] for name in ("start", "ports", "age") if name in values}
    found = function(*[values[name] for name in values if name not in named], **named)
    return list(itertools.islice(found, 5)) if inspect.isgenerator(found) else found


def right_values(name, words):
    text = "a@0 b@5" if name == "parse_line" else "a>b b>c"
    return {word: copy.deepcopy(RIGHT.get(word, text)) for word in words.split() if word != "*"}


def all_calls():
    """Return all functions with names, right values and the parameters that are checked, in the order of the errors."""
    found = [(getattr(module, name), name, right_values(name, words)) for module, name, words in FUNCTIONS]
    found.append((live.Network, "Network", right_values("Network", "line")))
    found.append((live.AgeingNetwork, "AgeingNetwork", right_values("AgeingNetwork", "line * age")))
    for make in [live.Network, live.AgeingNetwork]:
        found.append((make.from_record, "from_record", right_values("from_record", "line record")))
    orders = {"nth_history": ["line", "record", "ports", "number"]}
    return [(function, name, values, orders.get(name, [word for word in values if word in WRONG]))
            for function, name, values in found]


def spoilt(value):
    """Change all lists and dicts in a value."""
    if isinstance(value, (list, tuple)):
        for item in value:
            spoilt(item)
    if isinstance(value, dict):
        for item in value.values():
            spoilt(item)
        value["x"] = "x"
    if isinstance(value, list):
        value.append("x")


def kinds_in(value):
    """Yield the types of all values in a value, keys of dicts too."""
    yield type(value)
    if isinstance(value, (list, tuple)):
        for item in value:
            yield from kinds_in(item)
    if isinstance(value, dict):
        for key, item in value.items():
            yield from kinds_in(key)
            yield from kinds_in(item)


class SignatureTest(unittest.TestCase):
    def assert_parameters(self, function, words):
        found = []
        for parameter in inspect.signature(function).parameters.values():
            if parameter.kind is parameter.KEYWORD_ONLY and "*" not in found:
                found.append("*")
            found.append("*" + parameter.name if parameter.kind is parameter.VAR_POSITIONAL else parameter.name)
        self.assertEqual(found, words.split())

    def test_functions(self):
        for module, name, words in FUNCTIONS:
            with self.subTest(name):
                function = getattr(module, name)
                self.assertTrue(inspect.isfunction(function))
                self.assertEqual((function.__module__, function.__name__), (module.__name__, name))
                self.assert_parameters(function, words)
                for parameter in inspect.signature(function).parameters.values():
                    expected = None if parameter.kind is parameter.KEYWORD_ONLY else parameter.empty
                    self.assertIs(parameter.default, expected)

    def test_methods(self):
        for made, methods in METHODS.items():
            for name, words in methods.items():
                with self.subTest(made.__name__, name=name):
                    self.assert_parameters(vars(made)[name], words)
        self.assertEqual(inspect.signature(live.AgeingNetwork.__init__).parameters["age"].default, 10)
        for made in [live.Network, live.AgeingNetwork]:
            self.assert_parameters(made.from_record, "line record")

    def test_each_error_derives_directly_from_flood_error(self):
        found = [value for value in vars(errors).values() if inspect.isclass(value) and value is not FloodError]
        self.assertEqual(len(found), 15)
        self.assertEqual({made.__bases__ for made in found}, {(FloodError,)})


class ErrorTest(unittest.TestCase):
    def test_right_values(self):
        for function, name, values, _ in all_calls():
            self.assertIsNone(raised(called, function, values), name)

    def test_each_wrong_value_of_each_parameter(self):
        for function, name, values, order in all_calls():
            for word in order:
                error, wrongs = WRONG[word]
                for wrong in wrongs:
                    with self.subTest(name, word=word, wrong=repr(wrong)[:50]):
                        self.assertIs(raised(called, function, {**values, word: wrong}), error)

    def test_several_at_once(self):
        chance = random.Random(121)
        for function, name, values, order in all_calls():
            for many in range(2, len(order) + 1):
                for words in itertools.combinations(order, many):
                    for _ in range(12):
                        wrong = {word: chance.choice(WRONG[word][1]) for word in words}
                        with self.subTest(name, wrong=repr(wrong)[:200]):
                            self.assertIs(raised(called, function, {**values, **wrong}), WRONG[words[0]][0])

    def test_no_value_is_too_odd_for_those_that_take_any(self):
        for function, name, values, _ in all_calls():
            if "value" in values:
                for value in ODD_VALUES:
                    self.assertIs(called(function, {**values, "value": value}), name == "is_frames" and value == [])

    def test_errors_change_no_argument(self):
        chance = random.Random(122)
        for function, name, values, order in all_calls():
            for word in order:
                wrong = {**values, word: chance.choice(WRONG[word][1])}
                before = repr(wrong)
                raised(called, function, wrong)
                self.assertEqual(repr(wrong), before)


class ValueTest(unittest.TestCase):
    def test_arguments_do_not_change(self):
        for function, name, values, _ in all_calls():
            before = repr(values)
            called(function, values)
            self.assertEqual(repr(values), before, name)

    def test_results_are_new_inside_too(self):
        for function, name, values, _ in all_calls():
            first = called(function, values)
            kept = copy.deepcopy(first)
            spoilt(first)
            self.assertEqual(called(function, values), kept, name)
            self.assertEqual(values, right_values(name, " ".join(values)), name)

    def test_only_plain_values_are_returned(self):
        plain = {int, str, bool, list, tuple, dict, type(None)}
        for function, name, values, _ in all_calls():
            if not inspect.isclass(function) and name != "from_record":
                self.assertLessEqual(set(kinds_in(called(function, values))), plain, name)

    def test_the_order_of_items_has_no_effect(self):
        for function, name, values, _ in all_calls():
            expected = called(function, values)
            words = [word for word in values if isinstance(values[word], dict)]
            for tables in itertools.product(*[reordered(values[word]) for word in words]):
                found = called(function, {**values, **dict(zip(words, tables))})
                self.assertEqual(found, expected, name)
                if isinstance(expected, (dict, list, tuple, str)):
                    self.assertEqual(repr(found), repr(expected), name)

    def test_equal_arguments_give_equal_results(self):
        for function, name, values, _ in all_calls():
            self.assertEqual(called(function, copy.deepcopy(values)), called(function, values), name)

    def test_keys_ascend(self):
        line = {"c": 9, "a": 0, "b": 5}
        network, ageing = live.Network(line), live.AgeingNetwork(line)
        for table in [frames.known_after(line, F), records.record_of(line, F), texts.parse_line("c@0 b@1 a@2"),
                      network.line, network.known, ageing.line, ageing.known]:
            self.assertEqual(list(table), ["a", "b", "c"])


if __name__ == "__main__":
    unittest.main()
