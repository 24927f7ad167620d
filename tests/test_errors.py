"""The errors: point [3] and the interface's paragraph on them."""

import unittest

from floodline import errors

PLAIN = ["InvalidLine", "InvalidState", "InvalidFrames", "InvalidRecord", "InvalidPorts", "InvalidHost",
         "InvalidPosition", "InvalidFrame", "InvalidNumber", "InvalidHistory", "InvalidCommand", "NothingToUndo"]
FIELDS = {"Contradiction": "reason", "TooMany": "count", "InvalidText": "index"}
VALUES = [None, 0, 7, 10 ** 40, "text", ("silent", ("a", 0)), ("ring", [("a", 0), ("b", 0)])]


class ErrorTest(unittest.TestCase):
    def test_flood_error_derives_directly_from_value_error(self):
        self.assertEqual(errors.FloodError.__bases__, (ValueError,))

    def test_each_class_derives_directly_from_flood_error(self):
        for name in PLAIN + list(FIELDS):
            with self.subTest(name):
                self.assertEqual(getattr(errors, name).__bases__, (errors.FloodError,))

    def test_classes_are_defined_in_this_file(self):
        for name in ["FloodError"] + PLAIN + list(FIELDS):
            with self.subTest(name):
                self.assertEqual(getattr(errors, name).__module__, "floodline.errors")
                self.assertEqual(getattr(errors, name).__name__, name)

    def test_most_are_made_with_one_string(self):
        for name in ["FloodError"] + PLAIN:
            with self.subTest(name):
                error = getattr(errors, name)("what is wrong")
                self.assertEqual(str(error), "what is wrong")

    def test_three_keep_the_value_of_their_field(self):
        for name, field in FIELDS.items():
            for value in VALUES:
                with self.subTest(name, value=value):
                    error = getattr(errors, name)(value)
                    self.assertEqual(list(vars(error)), [field])
                    self.assertIs(getattr(error, field), value)

    def test_three_need_exactly_one_value(self):
        for name in FIELDS:
            with self.subTest(name):
                self.assertRaises(TypeError, getattr(errors, name))
                self.assertRaises(TypeError, getattr(errors, name), 1, 2)

    def test_each_can_be_caught_as_a_flood_error(self):
        for name in PLAIN + list(FIELDS):
            with self.subTest(name):
                with self.assertRaises(errors.FloodError):
                    raise getattr(errors, name)("x")


if __name__ == "__main__":
    unittest.main()
