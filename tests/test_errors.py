"""The error classes: [1.1]."""

import unittest

from cutbehind import errors
from tests.samples import ABBA, STRANGE

WITH_MESSAGE = (
    "InvalidText", "InvalidBook", "InvalidCutter", "InvalidStand", "InvalidMenu", "InvalidOperation",
)
KEEPING = {
    "ParseError": "line", "UnknownPiece": "piece", "UnknownText": "name", "NothingToUndo": "many",
    "TooMany": "limit", "TooFar": "number", "InvalidNumber": "value",
}
BASES = {
    "CutError": ValueError, "UnknownPiece": KeyError, "UnknownText": LookupError, "NothingToUndo": IndexError,
    "TooMany": OverflowError, "TooFar": ArithmeticError, "InvalidNumber": RuntimeError,
}
OWN = WITH_MESSAGE + ("ParseError",)


def error(name):
    return getattr(errors, name)


class BaseClasses(unittest.TestCase):
    def test_nearest_base_class(self):
        for name, base in BASES.items():
            self.assertEqual(error(name).__bases__, (base,), name)
        for name in OWN:
            self.assertEqual(error(name).__bases__, (errors.CutError,), name)

    def test_which_is_which(self):
        every = tuple(BASES) + OWN
        for name in every:
            for other in every:
                expected = name == other or (other == "CutError" and name in OWN)
                self.assertEqual(issubclass(error(name), error(other)), expected, (name, other))

    def test_they_can_be_caught_as_their_bases(self):
        with self.assertRaises(ValueError):
            raise errors.InvalidStand("message")
        with self.assertRaises(KeyError):
            raise errors.UnknownPiece("a")
        with self.assertRaises(ArithmeticError):
            raise errors.TooMany(2000)


class Kept(unittest.TestCase):
    def test_a_message_is_taken(self):
        for name in ("CutError",) + WITH_MESSAGE:
            self.assertIsInstance(error(name)("message"), error(name))

    def test_any_value_is_kept(self):
        for name, attribute in KEEPING.items():
            for value in STRANGE + (0, "a", "", (), ABBA, 7.5, {"a"}, object(), 10 ** 9000):
                self.assertIs(getattr(error(name)(value), attribute), value, name)

    def test_it_is_kept_beside_a_second_error(self):
        for name, attribute in KEEPING.items():
            first = error(name)([1])
            second = error(name)("other")
            self.assertEqual([getattr(first, attribute), getattr(second, attribute)], [[1], "other"])

    def test_just_one_value_is_taken(self):
        for name in KEEPING:
            with self.assertRaises(TypeError):
                error(name)()
            with self.assertRaises(TypeError):
                error(name)(1, 2)
