import unittest

from roadbook.errors import BadNumber
from roadbook.figures import (
    are_figures, are_rising, check_number, is_any_number, is_known, is_name, is_number, number_by)

from kinds import HUGE, LISTS, NO_LISTS, NO_NAMES, NO_NUMBERS, NO_TEXTS, UNKNOWN


class FigureTests(unittest.TestCase):
    def test_numbers(self):
        for value in [-2, 0, 7]:
            self.assertTrue(is_number(value, -2, 7))
        for value in [-3, 8] + HUGE + NO_NUMBERS:
            self.assertFalse(is_number(value, -2, 7))

    def test_any_numbers(self):
        for value in [-2, 0, 7] + HUGE:
            self.assertTrue(is_any_number(value))
        for value in NO_NUMBERS:
            self.assertFalse(is_any_number(value))

    def test_checks_of_numbers(self):
        for value in [-2, 0, 7]:
            self.assertIsNone(check_number(value, -2, 7))
        for value in [-3, 8] + HUGE + NO_NUMBERS:
            self.assertRaises(BadNumber, check_number, value, -2, 7)

    def test_names(self):
        for value in ["a", "z", "abcdefgh", "stuvwxyz"]:
            self.assertTrue(is_name(value))
        for value in NO_NAMES:
            self.assertFalse(is_name(value))

    def test_known_names(self):
        self.assertTrue(is_known("a", {"b": 1, "a": None}))
        for value in NO_TEXTS + UNKNOWN:
            self.assertFalse(is_known(value, {"b": 1, "a": None}))

    def test_rising_numbers(self):
        for values in [[1], [6], [1, 2], [1, 3, 6]]:
            self.assertTrue(are_rising(values, 3, 1, 6))
        for values in [[0], [7], [1, 1], [2, 1], [1, 2, 3, 4], [1, True], (1, 2)] + LISTS + NO_LISTS:
            self.assertFalse(are_rising(values, 3, 1, 6))

    def test_figures(self):
        for text in ["0", "00", "9", "0123456789", "9" * 5000]:
            self.assertTrue(are_figures(text))
        for text in ["", " ", "1 ", "-1", "1.", "a", "1a", "1\n", "/", ":"]:
            self.assertFalse(are_figures(text))

    def test_numbers_by_texts(self):
        for number in [0, 1, 9, 10, 100, 9999, 10000, 12345, 99999]:
            self.assertEqual(number_by(str(number)), number)
        for text in ["", " ", "00", "01", "00000", "012345", "100000", "123456", "-1", "+1", "-0", " 1", "1 ", "1_0",
                     "1.0", "1\n", "x", "9" * 5000]:
            self.assertIsNone(number_by(text))


if __name__ == "__main__":
    unittest.main()
