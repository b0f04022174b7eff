"""Integers, signs, texts and pieces: [0.1], [0.5], [0.7]."""

import unittest

from cutbehind.base import books, signs
from cutbehind.base.signs import is_integer, is_piece, is_sign, is_text
from tests.samples import ABBA, STRANGE

LETTERS = "abcdefghijklmnopqrstuvwxyz"
# A capital, letters that are none of the 26, the neighbours of a and z, a digit, blanks.
NO_SIGNS = ("A", "Z", "\u00e9", "\u00df", "\u0131", "\u03b1", "\u2170", "`", "{", "1", " ", "\n", "\t", "\x00")
NO_STRINGS = (True, False, None, 0, 1, (), ("a",), [], ["a"], {}, {"a": 1}, b"a", ABBA)


class Integers(unittest.TestCase):
    def test_sixty_and_sixty_one_digits(self):
        for value in (0, 1, -1, 10 ** 59, 10 ** 60 - 1, -(10 ** 60 - 1)):
            self.assertIs(is_integer(value), True, value)
        for value in (10 ** 60, -(10 ** 60), 10 ** 60 + 1, 10 ** 99, -(10 ** 99)):
            self.assertIs(is_integer(value), False, value)

    def test_booleans_are_no_integers(self):
        self.assertIs(is_integer(True), False)
        self.assertIs(is_integer(False), False)

    def test_other_kinds(self):
        for value in (None, "", "1", 1.0, (1,), [1], {}, {1: 1}, ABBA):
            self.assertIs(is_integer(value), False, value)


class Signs(unittest.TestCase):
    def test_each_letter(self):
        for letter in LETTERS:
            self.assertIs(is_sign(letter), True)
            self.assertIs(is_piece(letter), True)
            self.assertIs(is_text(letter), True)

    def test_just_one(self):
        self.assertIs(is_sign(""), False)
        self.assertIs(is_sign("ab"), False)

    def test_others(self):
        for value in NO_SIGNS + NO_STRINGS + STRANGE:
            self.assertIs(is_sign(value), False, value)


class Texts(unittest.TestCase):
    def test_numbers_of_signs(self):
        for text in ("", "a", LETTERS, "z" * 8000):
            self.assertIs(is_text(text), True)
        self.assertIs(is_text("z" * 8001), False)

    def test_each_place_holds_a_sign(self):
        for wrong in NO_SIGNS:
            for text in (wrong, wrong + "ab", "a" + wrong + "b", "ab" + wrong):
                self.assertIs(is_text(text), False, text)

    def test_others(self):
        for value in NO_STRINGS + STRANGE:
            self.assertIs(is_text(value), False, value)


class Pieces(unittest.TestCase):
    def test_numbers_of_signs(self):
        answers = [is_piece("q" * many) for many in range(8)]
        self.assertEqual(answers, [False, True, True, True, True, True, False, False])
        self.assertIs(is_piece("a" * 8000), False)

    def test_others(self):
        for value in NO_STRINGS + STRANGE:
            self.assertIs(is_piece(value), False, value)
        for wrong in NO_SIGNS:
            self.assertIs(is_piece("a" + wrong), False, wrong)
            self.assertIs(is_piece(wrong + "a"), False, wrong)


class Constants(unittest.TestCase):
    def test_they_stand_with_the_books(self):
        kept = (books.MAX_SIGNS, books.MAX_LENGTH, books.MAX_PIECES, books.MAX_ALPHABET, books.MAX_PRICE)
        self.assertEqual(kept, (8000, 5, 12, 4, 99))
        self.assertEqual((signs.MAX_SIGNS, signs.MAX_LENGTH), (8000, 5))
