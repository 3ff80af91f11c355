"""Whole numbers and names, by point 1.1."""

import unittest

from benchworth.names import is_name, is_whole
from tests.common import ODD_THINGS, SIXTY, Told

SMALL_LETTERS = "abcdefghijklmnopqrstuvwxyz"
OTHER_SIGNS = [chr(code) for code in range(32, 127) if chr(code) not in SMALL_LETTERS] + ["\n", "\t"]


class Wholes(Told, unittest.TestCase):
    def test_numbers(self):
        for number in (0, 1, -1, 2, 10 ** 12, -10 ** 12, 10 ** 13, SIXTY, -SIXTY):
            with self.subTest(number):
                self.assert_told(True, is_whole, number)

    def test_true_and_false_are_none(self):
        self.assert_told(False, is_whole, True)
        self.assert_told(False, is_whole, False)

    def test_other_things(self):
        for thing in ODD_THINGS + [[], [1], (1, 2, 3, 4), [True]]:
            with self.subTest(thing):
                self.assert_told(False, is_whole, thing)


class Names(Told, unittest.TestCase):
    def test_each_letter_alone(self):
        for letter in SMALL_LETTERS:
            self.assert_told(True, is_name, letter)

    def test_lengths(self):
        for many in range(1, 9):
            with self.subTest(many):
                self.assert_told(True, is_name, "z" * many)
        self.assert_told(True, is_name, "abcdefgh")
        self.assert_told(True, is_name, "stuvwxyz")
        for text in ("", "abcdefghi", "a" * 9, "a" * 10, "a" * 2000):
            with self.subTest(text):
                self.assert_told(False, is_name, text)

    def test_other_signs_anywhere(self):
        for sign in OTHER_SIGNS:
            for text in (sign, sign + "bc", "a" + sign + "c", "ab" + sign, sign + "bcdefgh", "abcdefg" + sign):
                with self.subTest(text):
                    self.assert_told(False, is_name, text)

    def test_signs_at_the_end_beyond_eight_letters(self):
        for sign in ("\n", "\t", " "):
            self.assert_told(False, is_name, "abcdefgh" + sign)

    def test_other_things(self):
        for thing in [0, 1, -1, None, True, False, b"abc", [], ["a"], ["a", "b"], (), ("a",), {}, {"a": 1}, set(),
                      {"a"}, range(3), len, str]:
            with self.subTest(thing):
                self.assert_told(False, is_name, thing)


if __name__ == "__main__":
    unittest.main()
