"""Texts: points [2] to [4] and the interface of floodline.texts."""

import random
import unittest

from floodline import texts as module
from floodline.errors import InvalidFrames, InvalidLine, InvalidText
from floodline.texts import format_frames, format_line, parse_frames, parse_line
from tests.samples import F, FAR, N, ODD_VALUES, host_names, raised, random_frames, random_line, reordered, unchanged
from tests.test_frames import NO_FRAMES
from tests.test_histories import error_of
from tests.test_lines import NO_LINES

NO_STRINGS = [value for value in ODD_VALUES if not isinstance(value, str)] + [["a@0"], ("a@0",), b"a@0", {"a": 0}, N, F]
# Signs that int takes as digits, or that look like one.
ODD_DIGITS = ["\u0663", "\u00b2", "\u0967", "\uff11", "\u2460", "\u00bd", "\u4e00"]
NO_NUMBERS = ["", "-", "--1", "-0", "00", "01", "-01", "007", "+1", "+0", "1_0", "1.0", "1e3", "0x1", "1-", "1-2", "a",
              "x1", "1a", "1\n", "\n1", "1\t", "\t1", "1@", "@1", "1@2", "- 1", "\u22121", "-\u0661", str(FAR + 1),
              str(-FAR - 1), "1" * 32, "0" * 31, "-" + "1" * 32, "9" * 31, "1" * 3000, "9" * 5000]
NO_NUMBERS += ODD_DIGITS + ["1" + digit for digit in ODD_DIGITS]
NO_HOST_NAMES = ["", "A", "Ab", "aB", "abcdefghi", "a" * 100, "a1", "1", "a-", "a_b", "a.b", "\u00e4", "\u0430", "a\n",
                 "\na", "\t", "a\tb", "a>b", "`", "{", "*"]


F_WORDS = ["a>b", "b>a", "c>b", "b>c"]


def index_of(function, *values):
    """Return the index of the InvalidText that a call raises."""
    error = error_of(function, *values)
    assert type(error) is InvalidText, (error, values)
    return error.index


def line_of(many):
    """Return a line of so many hosts, and its text."""
    hosts = host_names(many)
    return {host: at for at, host in enumerate(hosts)}, " ".join(f"{host}@{at}" for at, host in enumerate(hosts))


class FormatTest(unittest.TestCase):
    def test_examples(self):
        line = {"a": 0, "b": 5, "c": -9}
        self.assertEqual([format_line(line), format_frames(line, [("a", "b")])], ["c@-9 a@0 b@5", "a>b"])

    def test_lines(self):
        self.assertEqual(format_line({"a": 3}), "a@3")
        self.assertEqual(format_line({"z": -FAR, "y": FAR, "abcdefgh": 0}),
                         "z@-1000000000000000000000000000000 abcdefgh@0 y@1000000000000000000000000000000")
        self.assertEqual(format_line({"a": 10, "b": 9, "c": -10, "d": -9}), "c@-10 d@-9 b@9 a@10")
        for other in reordered(N):
            self.assertEqual(format_line(other), "a@0 b@5 c@9")
        self.assertEqual(format_line(line_of(40)[0]), line_of(40)[1])

    def test_frames(self):
        self.assertEqual(format_frames(N, F), "a>b b>a c>b b>c")
        self.assertEqual(format_frames(N, []), "")
        self.assertEqual(format_frames({"a": 3}, []), "")
        self.assertEqual(format_frames(N, [("a", "b")] * 300), " ".join(["a>b"] * 300))

    def test_errors(self):
        for line in NO_LINES:
            self.assertEqual(raised(format_line, line), InvalidLine)
            self.assertEqual(raised(format_frames, line, F), InvalidLine)
            self.assertEqual(raised(format_frames, line, None), InvalidLine)
        for frames in NO_FRAMES:
            self.assertEqual(raised(format_frames, N, frames), InvalidFrames)


class ParseLineTest(unittest.TestCase):
    def test_examples(self):
        self.assertEqual(parse_line("c@-9 a@0"), {"a": 0, "c": -9})
        self.assertEqual(index_of(parse_line, "a@0 b@05"), 1)

    def test_lines(self):
        self.assertEqual(parse_line("a@0"), {"a": 0})
        self.assertEqual(parse_line("a@-1"), {"a": -1})
        self.assertEqual(parse_line("abcdefgh@10 z@20"), {"abcdefgh": 10, "z": 20})
        self.assertEqual(parse_line(f"a@{-FAR} b@{1 - FAR} c@{FAR - 1} d@{FAR}"),
                         {"a": -FAR, "b": 1 - FAR, "c": FAR - 1, "d": FAR})

    def test_keys_ascend_and_values_are_integers(self):
        line = parse_line("c@-9 ab@0 a@7 b@8")
        self.assertEqual(list(line), ["a", "ab", "b", "c"])
        self.assertEqual({type(position) for position in line.values()}, {int})
        self.assertIs(type(line), dict)

    def test_values_that_are_no_strings(self):
        for value in NO_STRINGS:
            with self.subTest(repr(value)[:50]):
                self.assertIsNone(index_of(parse_line, value))

    def test_numbers_of_words(self):
        for many in [1, 2, 39, 40]:
            line, text = line_of(many)
            self.assertEqual(parse_line(text), line)
        for many in [41, 42, 300, 301, 400]:
            self.assertIsNone(index_of(parse_line, line_of(many)[1]))
            self.assertIsNone(index_of(parse_line, " ".join(["?"] * many)))
            self.assertIsNone(index_of(parse_line, " " * (many - 1)))
        self.assertEqual(index_of(parse_line, " ".join(["?"] * 40)), 0)
        self.assertEqual(index_of(parse_line, " " * 39), 0)
        self.assertEqual(index_of(parse_line, line_of(39)[1] + " "), 39)
        self.assertIsNone(index_of(parse_line, line_of(40)[1] + " "))

    def test_the_empty_text(self):
        self.assertEqual(index_of(parse_line, ""), 0)

    def test_spaces(self):
        for text, index in [(" ", 0), ("  ", 0), (" a@0", 0), ("a@0 ", 1), ("a@0  b@5", 1), ("a@0 b@5 ", 2),
                            ("a@0 b@5  c@9", 2), ("a@0   b@5", 1), ("a@0\tb@5", 0), ("a@0\nb@5", 0),
                            ("a@0 b@5\n", 1), ("\na@0", 0), ("a@0 \n", 1), ("a@0\u00a0b@5", 0), ("a@0 \u3000", 1),
                            ("a @0", 0), ("a@ 0", 0), ("a@0 b @5", 1), ("a@0 b@ 5", 1), ("a@0,b@5", 0)]:
            with self.subTest(text):
                self.assertEqual(index_of(parse_line, text), index)

    def test_numbers(self):
        for number in ["0", "1", "9", "10", "-1", "-10", "100", str(FAR), str(-FAR)]:
            self.assertEqual(parse_line("a@" + number), {"a": int(number)})
        for number in NO_NUMBERS:
            with self.subTest(number[:40]):
                self.assertEqual(index_of(parse_line, "a@" + number), 0)
                self.assertEqual(index_of(parse_line, f"b@{-FAR} a@" + number), 1)
                self.assertEqual(index_of(parse_line, f"b@{-FAR} a@{number} c@{FAR}"), 1)

    def test_hosts(self):
        for host in ["a", "z", "abcdefgh", "zzzzzzzz", "all"]:
            self.assertEqual(parse_line(f"{host}@7"), {host: 7})
        for host in NO_HOST_NAMES:
            with self.subTest(host):
                self.assertEqual(index_of(parse_line, host + "@5"), 0)
                self.assertEqual(index_of(parse_line, f"b@0 {host}@5"), 1)
                self.assertEqual(index_of(parse_line, f"b@0 {host}@5 {host}@9"), 1)

    def test_words_without_one_of_the_parts(self):
        for word in ["a", "5", "@", "a@", "@5", "5@a", "a5", "a@@5", "a@5@", "@a@5", "a@5@6", "a>5", "a:5", "a@b"]:
            self.assertEqual(index_of(parse_line, word), 0)
            self.assertEqual(index_of(parse_line, f"z@-1 {word} y@9"), 1)

    def test_what_stands_before(self):
        for text, index in [("a@0 a@5", 1), ("a@0 b@0", 1), ("a@0 b@-1", 1), ("a@0 b@5 a@9", 2), ("a@0 b@5 c@5", 2),
                            ("a@0 b@5 c@4", 2), ("a@0 b@5 c@0", 2), ("a@5 b@3 c@1", 1), ("a@-1 b@-2", 1),
                            ("a@9 b@10 c@2", 2), (f"a@{FAR} b@0", 1), ("a@0 b@5 a@5 ?", 2), ("a@0 a@0", 1),
                            ("a@0 b@1 c@2 b@3 d@4 a@5", 3)]:
            with self.subTest(text):
                self.assertEqual(index_of(parse_line, text), index)
        self.assertEqual(parse_line("a@-2 b@-1 c@9 d@10"), {"a": -2, "b": -1, "c": 9, "d": 10})

    def test_the_first_wrong_word(self):
        good = line_of(40)[1].split(" ")
        for at in range(40):
            for wrong in ["", "a", "A@1", good[at - 1] if at else "@", f"zz@{FAR + 1}"]:
                words = good[:at] + [wrong] + good[at + 1:]
                self.assertEqual(index_of(parse_line, " ".join(words)), at)
                words[-1] = "?"
                self.assertEqual(index_of(parse_line, " ".join(words)), at)


class ParseFramesTest(unittest.TestCase):
    def test_frames(self):
        self.assertEqual(parse_frames(N, "a>b b>a c>b b>c"), F)
        self.assertEqual(parse_frames(N, "a>b"), [("a", "b")])
        self.assertEqual(parse_frames(N, ""), [])
        self.assertEqual(parse_frames({"a": 3}, ""), [])
        self.assertEqual(parse_frames({"abcdefgh": 3, "z": 0}, "abcdefgh>z"), [("abcdefgh", "z")])

    def test_values_that_are_no_strings(self):
        for value in NO_STRINGS:
            with self.subTest(repr(value)[:50]):
                self.assertIsNone(index_of(parse_frames, N, value))

    def test_numbers_of_words(self):
        for many in [1, 2, 40, 41, 299, 300]:
            self.assertEqual(parse_frames(N, " ".join(["a>b"] * many)), [("a", "b")] * many)
            self.assertEqual(index_of(parse_frames, N, " ".join(["?"] * many)), 0)
        for many in [301, 302, 400]:
            for word in ["a>b", "?", ""]:
                self.assertIsNone(index_of(parse_frames, N, " ".join([word] * many)))
        self.assertEqual(index_of(parse_frames, N, " ".join(["a>b"] * 299) + " "), 299)
        self.assertIsNone(index_of(parse_frames, N, " ".join(["a>b"] * 300) + " "))

    def test_spaces(self):
        for text, index in [(" ", 0), ("  ", 0), (" a>b", 0), ("a>b ", 1), ("a>b  b>a", 1), ("a>b b>a ", 2),
                            ("a>b\tb>a", 0), ("a>b\nb>a", 0), ("a>b b>a\n", 1), ("a>b\u00a0b>a", 0), ("a >b", 0),
                            ("a> b", 0), ("a>b b> a", 1)]:
            with self.subTest(text):
                self.assertEqual(index_of(parse_frames, N, text), index)

    def test_wrong_words(self):
        for word in ["a", ">", "a>", ">a", "a>a", "a>d", "d>a", "A>b", "a>B", "a>b>c", "a>>b", ">a>b", "a>b>", "a<b",
                     "a@b", "b<a", "a-b", "a>\u0430", "a>b\n", "\na>b", "a\t>b", "ab", "a>bc", "-", "*", "0>5"]:
            for at in [0, 1, 150, 299]:
                words = ["a>b"] * 300
                words[at] = word
                self.assertEqual(index_of(parse_frames, N, " ".join(words)), at)
                words[-1] = "?"
                self.assertEqual(index_of(parse_frames, N, " ".join(words)), at)

    def test_one_host(self):
        self.assertEqual(index_of(parse_frames, {"a": 3}, "a>a"), 0)

    def test_the_line_is_checked_first(self):
        for line in NO_LINES:
            for text in ["a>b", "", None, "?"]:
                self.assertEqual(raised(parse_frames, line, text), InvalidLine)


class ThereAndBackTest(unittest.TestCase):
    def test_lines(self):
        chance = random.Random(101)
        for many in range(1, 41):
            for line in [random_line(chance, many), {host: chance.randint(-FAR, FAR) for host in host_names(many)}]:
                text = format_line(line)
                self.assertEqual(parse_line(text), line)
                self.assertEqual(format_line(parse_line(text)), text)

    def test_frames(self):
        chance = random.Random(102)
        for many in range(301):
            line = random_line(chance, chance.randint(2, 40))
            frames = random_frames(chance, line, many)
            text = format_frames(line, frames)
            self.assertEqual(parse_frames(line, text), frames)
            self.assertEqual(text.count(" "), max(many - 1, 0))

    def test_texts_of_more_than_four_thousand_characters(self):
        line = {"abcdefgh": 0, "abcdefgi": FAR}
        frames = [("abcdefgh", "abcdefgi")] * 300
        text = format_frames(line, frames)
        self.assertGreater(len(text), 4000)
        self.assertEqual(parse_frames(line, text), frames)

    def test_only_the_text_of_a_line_is_taken(self):
        chance = random.Random(103)
        taken = 0
        for _ in range(4000):
            words = [chance.choice(["a@0", "b@-1", "a@1", "b@2", "c@10", "c@03", "c@", ""]) for _ in range(3)]
            text = " ".join(words[:chance.randint(1, 3)])
            error = raised(parse_line, text)
            self.assertIn(error, [None, InvalidText])
            if error is None:
                self.assertEqual(format_line(parse_line(text)), text)
                taken += 1
        self.assertTrue(500 < taken < 3500)

    def test_only_the_words_up_to_the_wrong_one_count(self):
        chance = random.Random(104)
        for function, first, choices in [(parse_line, (), ["a@0", "b@-1", "a@1", "b@2", "c@10", "d@12", "c@03", "?"]),
                                         (parse_frames, (N,), F_WORDS + ["a>a", "b>d", "?", "a>b>c"])]:
            for _ in range(1000):
                words = [chance.choice(choices) for _ in range(chance.randint(1, 6))]
                error = error_of(function, *first, " ".join(words))
                if error is not None:
                    behind = words[:error.index + 1] + ["?"] * chance.randint(0, 3)
                    self.assertEqual(index_of(function, *first, " ".join(behind)), error.index)
                    if error.index > 0:
                        self.assertIsNone(raised(function, *first, " ".join(words[:error.index])))


class ConventionTest(unittest.TestCase):
    def test_functions_are_defined_in_this_file(self):
        for name in ["format_line", "format_frames", "parse_line", "parse_frames"]:
            self.assertEqual(getattr(module, name).__module__, "floodline.texts")

    def test_arguments_do_not_change(self):
        line = {"c": 9, "a": 0, "b": 5}
        self.assertTrue(unchanged(format_line, line))
        self.assertTrue(unchanged(format_frames, line, list(F)))
        self.assertTrue(unchanged(parse_frames, line, "a>b"))

    def test_results_are_new(self):
        for function, values in [(parse_frames, (N, "")), (parse_frames, (N, "a>b"))]:
            found = function(*values)
            kept = list(found)
            self.assertIs(type(found), list)
            found.append("x")
            self.assertEqual(function(*values), kept)
        parse_line("a@0")["b"] = 3
        self.assertEqual(parse_line("a@0"), {"a": 0})

    def test_the_order_of_items_has_no_effect(self):
        for other in reordered({"b": 7, "a": 9, "c": -1, "ab": 8}):
            self.assertEqual(format_line(other), "c@-1 b@7 ab@8 a@9")
            self.assertEqual(format_frames(other, [("a", "b"), ("c", "ab")]), "a>b c>ab")
            self.assertEqual(parse_frames(other, "a>b c>ab"), [("a", "b"), ("c", "ab")])


if __name__ == "__main__":
    unittest.main()
