"""Points 5 and 6: names and numbers."""

import string
import unittest

from helper import OTHER_VALUES, error_of, raised
from waterbyturns.errors import BadName, BadNumber
from waterbyturns.words import (check_day, check_different, check_name, check_new, check_number, is_name, is_place,
                                read_number)

NAMES = ["a", "z", "ab", "plot", "abcdefgh", "zzzzzzzz"]
NO_NAMES = ["", "abcdefghi", "A", "aB", "a1", "1", "a b", " a", "a ", "a\n", "\n", "a-b", "_", "`", "{",
            "\u00e4", "\u0430", "\u00df", 0, 1, None, True, 1.5, b"a", ["a"], ("a",), {"a": 1}, {"a"}]


class NamesTest(unittest.TestCase):
    def test_names(self):
        for text in NAMES + list(string.ascii_lowercase):
            self.assertIs(is_name(text), True, text)
            self.assertEqual(check_name(text), text)

    def test_each_length(self):
        for length in range(20):
            self.assertIs(is_name("q" * length), 1 <= length <= 8, length)

    def test_each_single_character(self):
        for code in range(1024):
            self.assertIs(is_name(chr(code)), chr(code) in string.ascii_lowercase, code)
            self.assertIs(is_name("a" + chr(code)), chr(code) in string.ascii_lowercase, code)

    def test_everything_else_is_no_name(self):
        for value in NO_NAMES:
            self.assertIs(is_name(value), False, value)
            self.assertEqual(error_of(check_name, value), raised(BadName, name=value))


class CheckNumberTest(unittest.TestCase):
    def test_both_ends_belong_to_the_range(self):
        for value in range(-5, 15):
            if 2 <= value <= 7:
                self.assertEqual(check_number("x", value, 2, 7), value)
            else:
                self.assertEqual(error_of(check_number, "x", value, 2, 7), raised(BadNumber, what="x", value=value))

    def test_a_range_of_one_number_and_an_empty_one(self):
        self.assertEqual(check_number("x", 3, 3, 3), 3)
        self.assertEqual(error_of(check_number, "x", 3, 3, 2), raised(BadNumber, what="x", value=3))
        self.assertEqual(error_of(check_number, "x", 2, 3, 2), raised(BadNumber, what="x", value=2))

    def test_what_is_no_integer(self):
        for value in OTHER_VALUES:
            kind, attributes = error_of(check_number, "word", value, 0, 8)
            self.assertIs(kind, BadNumber)
            self.assertEqual(attributes["what"], "word")
            self.assertIs(attributes["value"], value)

    def test_true_and_false_are_no_integers(self):
        self.assertIs(error_of(check_number, "x", True, 0, 8)[1]["value"], True)
        self.assertIs(error_of(check_number, "x", False, 0, 8)[1]["value"], False)

    def test_numbers_far_out_of_the_range(self):
        for value in [10 ** 5000, -10 ** 5000]:
            self.assertEqual(error_of(check_number, "x", value, 0, 8), raised(BadNumber, what="x", value=value))


class HelpersTest(unittest.TestCase):
    def test_names_that_differ(self):
        self.assertEqual(check_different(["b", "a", "ab"]), ("b", "a", "ab"))
        self.assertEqual(check_different([]), ())
        self.assertEqual(error_of(check_different, ["b", "a", "b", "A"]), raised(BadName, name="b"))
        self.assertEqual(error_of(check_different, ["b", "A", "b"]), raised(BadName, name="A"))
        self.assertEqual(check_new("a", ["b"]), "a")
        self.assertEqual(error_of(check_new, "a", {"a": 1}), raised(BadName, name="a"))
        self.assertEqual(error_of(check_new, "A", []), raised(BadName, name="A"))

    def test_days(self):
        for day in [0, 1, 9, 10 ** 30]:
            self.assertEqual(check_day(day), day)
        for day in [-1, -10 ** 30] + OTHER_VALUES:
            self.assertIs(error_of(check_day, day)[1]["value"], day)
        self.assertEqual(error_of(check_day, -1), raised(BadNumber, what="day", value=-1))

    def test_places(self):
        self.assertEqual([is_place(value, 3) for value in range(-2, 6)], [False] * 2 + [True] * 3 + [False] * 3)
        for value in OTHER_VALUES:
            self.assertIs(is_place(value, 3), False)
        self.assertIs(is_place(0, 0), False)


class ReadNumberTest(unittest.TestCase):
    def test_every_number_of_up_to_four_digits(self):
        for number in range(10000):
            self.assertEqual(read_number(str(number)), number)

    def test_the_result_is_an_integer(self):
        self.assertIs(type(read_number("0")), int)
        self.assertIs(type(read_number("9999")), int)

    def test_every_other_string(self):
        for text in ["", "00", "01", "007", "0000", "10000", "00000", "12345", "-1", "+1", "-0", " 1", "1 ", "1 2",
                     "1\n", "\n", "1.0", "1e1", "1_0", "0x1", "a", "1a", "\u0661", "\u00b2", "\u0967"]:
            self.assertEqual(error_of(read_number, text), raised(BadNumber, what="number", value=text))


if __name__ == "__main__":
    unittest.main()
