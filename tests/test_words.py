"""[2], [11]: whole numbers, names, values."""

import unittest

from slideroom.words import is_name, is_value, is_whole, is_within
from things import not_whole, things, whole_numbers


class WholeTest(unittest.TestCase):
    def test_whole_numbers_are(self):
        for thing in whole_numbers():
            self.assertIs(is_whole(thing), True, thing)

    def test_truths_and_other_things_are_not(self):
        for thing in [True, False] + not_whole():
            self.assertIs(is_whole(thing), False, thing)


class WithinTest(unittest.TestCase):
    def test_both_ends_are_within(self):
        for thing, told in [(2, False), (3, True), (4, True), (5, True), (6, False)]:
            self.assertIs(is_within(thing, 3, 5), told, thing)

    def test_one_number_and_none(self):
        self.assertIs(is_within(7, 7, 7), True)
        self.assertIs(is_within(7, 8, 6), False)

    def test_below_nought(self):
        for thing, told in [(-6, False), (-5, True), (-1, True), (0, True), (1, False)]:
            self.assertIs(is_within(thing, -5, 0), told, thing)

    def test_sixty_figures(self):
        most = 10 ** 60 - 1
        self.assertIs(is_within(most, -most, most), True)
        self.assertIs(is_within(-most, -most, most), True)
        self.assertIs(is_within(most, 0, most - 1), False)
        self.assertIs(is_within(-most, 1 - most, most), False)

    def test_other_things_are_not(self):
        for thing in not_whole():
            self.assertIs(is_within(thing, -10, 10), False, thing)


class NameTest(unittest.TestCase):
    def test_names(self):
        for name in ["a", "z", "box", "a7", "z9", "a0", "abcdefgh", "a2345678", "aaaaaaaa", "cells", "at", "pins"]:
            self.assertIs(is_name(name), True, name)

    def test_every_letter_and_figure(self):
        for letter in "abcdefghijklmnopqrstuvwxyz":
            self.assertIs(is_name(letter), True, letter)
            self.assertIs(is_name("q" + letter), True, letter)
        for figure in "0123456789":
            self.assertIs(is_name("q" + figure), True, figure)
            self.assertIs(is_name(figure), False, figure)

    def test_lengths(self):
        for length in range(12):
            self.assertIs(is_name("b" * length), 1 <= length <= 8, length)

    def test_every_other_sign(self):
        allowed = "abcdefghijklmnopqrstuvwxyz0123456789"
        for sign in [chr(number) for number in range(300)] + ["\u0661", "\u00b2", "\uff41"]:
            if sign not in allowed:
                for name in [sign, sign + "a", "a" + sign, "a" + sign + "b"]:
                    self.assertIs(is_name(name), False, name)

    def test_runs_of_the_alphabet_are_no_single_signs(self):
        self.assertIs(is_name("abc"), True)
        self.assertIs(is_name("7abc"), False)

    def test_other_things_are_not(self):
        for thing in things():
            if not isinstance(thing, str):
                self.assertIs(is_name(thing), False, thing)
        self.assertIs(is_name(["a"]), False)
        self.assertIs(is_name(("a",)), False)
        self.assertIs(is_name({"a": "a"}), False)


class ValueTest(unittest.TestCase):
    def test_thirty_figures(self):
        for thing in [0, 1, -1, 5, 10 ** 29, 10 ** 30 - 1, -(10 ** 29), 1 - 10 ** 30]:
            self.assertIs(is_value(thing), True, thing)

    def test_thirty_one_figures(self):
        for thing in [10 ** 30, 10 ** 30 + 1, -(10 ** 30), -(10 ** 30) - 1, 10 ** 59, -(10 ** 59)]:
            self.assertIs(is_value(thing), False, thing)

    def test_other_things_are_not(self):
        for thing in not_whole():
            self.assertIs(is_value(thing), False, thing)


if __name__ == "__main__":
    unittest.main()
