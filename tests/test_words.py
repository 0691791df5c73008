"""Stage 1: is_name and is_size, and [0.7] as far as it tells what a size is."""

import unittest

from bondfloors.base import words
from bondfloors.base.words import is_name, is_size
from tests import helper
from tests.helper import BIG, FORTY

LETTERS = "abcdefghijklmnopqrstuvwxyz"


class Names(unittest.TestCase):
    def test_one_to_eight_letters(self):
        for many in range(1, 9):
            with self.subTest(many):
                self.assertIs(is_name(LETTERS[:many]), True)
                self.assertIs(is_name(LETTERS[-many:]), True)

    def test_no_letter_and_nine_letters(self):
        self.assertIs(is_name(""), False)
        self.assertIs(is_name("abcdefghi"), False)
        self.assertIs(is_name("a" * 9), False)
        self.assertIs(is_name(LETTERS), False)

    def test_each_sign(self):
        for sign in [chr(code) for code in range(32, 127)] + ["\n"]:
            with self.subTest(sign):
                self.assertIs(is_name(sign), sign in LETTERS)
                for text in (sign + "b", "b" + sign, "b" + sign + "b"):
                    self.assertIs(is_name(text), sign in LETTERS)

    def test_what_is_no_string(self):
        wrong = [0, 1, 10, FORTY, ("a",), ("a", "b"), ["a"], {"a": "b"}, {"a": 1}, [["a"]], (("a",),)]
        for value in wrong + helper.odd_values():
            with self.subTest(value=value):
                self.assertIs(is_name(value), False)


class Sizes(unittest.TestCase):
    def test_sizes(self):
        for value in ((6, 5, 2), (1, 1, 2), (1, 7, 3), (7, 1, 7), (3, 3, 2), (2, 2, 5), (30, 20, 7)):
            with self.subTest(value=value):
                self.assertIs(is_size(value), True)

    def test_the_greatest_and_the_least(self):
        for value in ((BIG, 1, 2), (1, BIG, 2), (1, 1, BIG), (BIG, BIG, BIG), (BIG, BIG, 2)):
            with self.subTest(value=value):
                self.assertIs(is_size(value), True)

    def test_one_beyond(self):
        wrong = [
            (BIG + 1, 5, 2), (6, BIG + 1, 2), (6, 5, BIG + 1), (0, 5, 2), (6, 0, 2), (6, 5, 1),
            (-1, 5, 2), (6, -1, 2), (6, 5, 0), (6, 5, -1), (6, 5, -2), (-6, -5, 2),
            (FORTY, 5, 2), (6, FORTY, 2), (6, 5, FORTY), (-FORTY, 5, 2),
        ]
        for value in wrong:
            with self.subTest(value=value):
                self.assertIs(is_size(value), False)

    def test_each_place_is_an_integer(self):
        for wrong in [True, False, None, "6", "", (6,), [6], {6: 6}, helper.five()]:
            for value in ((wrong, 5, 2), (6, wrong, 2), (6, 5, wrong), (wrong, wrong, wrong)):
                with self.subTest(value=value):
                    self.assertIs(is_size(value), False)

    def test_a_tuple_of_three(self):
        wrong = [
            (6, 5), (6,), (6, 5, 2, 2), (6, 5, 2, "across"), [6, 5, 2], {6: 1, 5: 1, 2: 1}, "652", "abc",
            ((6, 5, 2),), ((6, 5, 2), (6, 5, 2), (6, 5, 2)), (6, (5, 2)), 6, 652, [(6, 5, 2)],
        ]
        for value in wrong + helper.odd_values():
            with self.subTest(value=value):
                self.assertIs(is_size(value), False)

    def test_arguments_are_not_changed(self):
        value = [6, [5], {"a": [2]}]
        is_size(value)
        is_name(value)
        self.assertEqual(value, [6, [5], {"a": [2]}])

    def test_defined_in_this_module(self):
        self.assertEqual([words.is_name.__module__, words.is_size.__module__], ["bondfloors.base.words"] * 2)


if __name__ == "__main__":
    unittest.main()
