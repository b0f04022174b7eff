"""Books: stage 1."""

import unittest

from cutbehind.base.books import Book
from cutbehind.errors import InvalidBook, InvalidText, UnknownPiece
from tests.samples import ABBA, EIGHT, NINE, ODD, STRANGE

TWELVE = ("a", "aa", "aaa", "aaaa", "aaaaa", "aaaab", "aab", "ab", "abb", "b", "ba", "bbbbb")


class Examples(unittest.TestCase):
    def test_the_document(self):
        shown = [
            ABBA.alphabet, ABBA.longest, ABBA["bba"], "ba" in ABBA, ABBA.starting("abba"), str(ABBA), list(ABBA),
        ]
        self.assertEqual(shown, [
            ("a", "b"), 3, 1, False, ("a", "ab"), "book of 4 pieces, 2 signs", ["a", "ab", "b", "bba"],
        ])
        with self.assertRaises(InvalidBook):
            Book({"ab": 1, "a": 1})


class Making(unittest.TestCase):
    def refuse(self, prices):
        """Both ways of making a book refuse these prices, and change nothing."""
        before = repr(prices)
        with self.assertRaises(InvalidBook):
            Book(prices)
        self.assertEqual(repr(prices), before)
        pairs = tuple(sorted(prices.items(), key=lambda pair: repr(pair[0])))
        with self.assertRaises(InvalidBook):
            Book.of(pairs)

    def test_numbers_of_pieces(self):
        twelve = {piece: 2 for piece in TWELVE}
        self.assertEqual(len(Book(twelve)), 12)
        self.assertEqual(len(Book.of(tuple(twelve.items()))), 12)
        self.refuse({**twelve, "bb": 2})
        self.refuse({})

    def test_numbers_of_signs_in_the_alphabet(self):
        four = {sign: 1 for sign in "aghz"}
        self.assertEqual(Book(four).alphabet, ("a", "g", "h", "z"))
        self.assertEqual(Book({"q": 5}).alphabet, ("q",))
        self.refuse({**four, "m": 1})

    def test_prices(self):
        for price in (1, 2, 98, 99):
            self.assertEqual(Book({"a": 1, "aa": price})["aa"], price)
            self.assertEqual(Book.of((("a", price),))["a"], price)
        for price in (0, 100, -1, True, False, None, "1", 1.0, (1,), [1], {}, 10 ** 60, ABBA):
            self.refuse({"a": price})
            self.refuse({"a": 1, "aa": price})

    def test_lengths_of_pieces(self):
        self.assertEqual(Book({"a": 1, "aaaaa": 1}).longest, 5)
        self.refuse({"a": 1, "aaaaaa": 1})
        self.refuse({"": 1, "a": 1})
        self.refuse({"": 1})

    def test_each_sign_is_a_piece(self):
        self.refuse({"ab": 1, "a": 1})
        self.refuse({"ab": 1, "b": 1})
        self.refuse({"a": 1, "b": 1, "abca": 1})
        self.refuse({"ab": 1})

    def test_wrong_pieces(self):
        for wrong in (0, True, None, (), ("a",), "A", "aB", "a b", "a\n", "\n", "1", "\u00e9", "", "a" * 8001, b"a"):
            self.refuse({wrong: 1})
            self.refuse({"a": 1, wrong: 1})

    def test_other_values(self):
        pairs = (("a", 1),)
        for value in STRANGE + (pairs, list(pairs), (), "", "a", 1, ABBA, {"a"}):
            before = repr(value)
            with self.assertRaises(InvalidBook):
                Book(value)
            self.assertEqual(repr(value), before)

    def test_the_order_in_the_dict_does_not_matter(self):
        turned = Book({"bba": 1, "b": 1, "ab": 1, "a": 1})
        self.assertEqual(list(turned.prices), ["a", "ab", "b", "bba"])
        self.assertTrue(turned == ABBA)


class MakingOfPairs(unittest.TestCase):
    def refuse(self, pairs):
        before = repr(pairs)
        with self.assertRaises(InvalidBook):
            Book.of(pairs)
        self.assertEqual(repr(pairs), before)

    def test_ascending_pairs(self):
        self.assertTrue(Book.of((("a", 1), ("ab", 1), ("b", 1), ("bba", 1))) == ABBA)
        self.assertTrue(Book.of((("a", 99),)) == Book({"a": 99}))

    def test_order_of_pairs(self):
        self.refuse((("b", 1), ("a", 1)))
        self.refuse((("a", 1), ("b", 1), ("ab", 1)))
        self.refuse((("a", 2), ("aaa", 1), ("aa", 1)))

    def test_twice_the_same_piece(self):
        self.refuse((("a", 1), ("a", 2)))
        self.refuse((("a", 1), ("a", 1)))
        self.refuse((("a", 1), ("b", 1), ("b", 2)))

    def test_pairs_of_the_wrong_form(self):
        wrong = ((), ("a",), ("a", 1, 1), ["a", 1], "a1", "ab", "a", 1, None, True, {"a": 1}, (1, "a"), {}, [], ABBA)
        for pair in wrong:
            self.refuse((pair,))
            self.refuse((("a", 1), pair))
            self.refuse((pair, ("a", 1)))

    def test_pieces_that_cannot_be_compared_or_hashed(self):
        for piece in (1, None, True, [], {}, (), ["a"], ABBA):
            self.refuse((("a", 1), (piece, 1)))
            self.refuse(((piece, 1), ("a", 1)))

    def test_lists_and_other_values(self):
        self.refuse([("a", 1)])
        self.refuse((["a", 1],))
        self.refuse({"a": 1})
        self.refuse(())
        for value in STRANGE:
            if value != (("a", 1),):
                self.refuse(value)


class Sharing(unittest.TestCase):
    def test_the_dict_that_was_passed(self):
        prices = {"a": 1, "b": 2}
        book = Book(prices)
        prices["a"] = 50
        prices["ab"] = 1
        del prices["b"]
        self.assertEqual([book.prices, book.pieces, book["a"], "ab" in book], [{"a": 1, "b": 2}, ("a", "b"), 1, False])

    def test_the_dict_that_was_returned(self):
        book = Book({"a": 1, "b": 2})
        taken = book.prices
        taken["a"] = 50
        taken["ab"] = 1
        del taken["b"]
        self.assertEqual([book.prices, len(book), book["b"]], [{"a": 1, "b": 2}, 2, 2])
        book.prices.clear()
        self.assertEqual(book.prices, {"a": 1, "b": 2})

    def test_properties_cannot_be_set(self):
        for name in ("prices", "pieces", "alphabet", "longest", "dearest"):
            with self.assertRaises(AttributeError):
                setattr(ABBA, name, None)


class Told(unittest.TestCase):
    def test_properties(self):
        self.assertEqual(ODD.prices, {"a": 9, "aa": 1, "ab": 1, "b": 9, "x": 1, "xa": 1})
        self.assertEqual(list(ODD.prices), ["a", "aa", "ab", "b", "x", "xa"])
        self.assertEqual(ODD.pieces, ("a", "aa", "ab", "b", "x", "xa"))
        self.assertEqual([ODD.alphabet, ODD.longest, ODD.dearest], [("a", "b", "x"), 2, 9])
        self.assertEqual([NINE.alphabet, NINE.longest, NINE.dearest], [("a",), 3, 9])
        self.assertEqual([EIGHT.alphabet, EIGHT.longest, EIGHT.dearest], [("a", "x"), 2, 9])

    def test_a_price(self):
        for book in (ABBA, ODD, EIGHT, NINE):
            self.assertEqual({piece: book[piece] for piece in book}, book.prices)

    def test_unknown_pieces(self):
        for value in STRANGE + ("", "ba", "bb", "c", "abba", 1, (), ABBA, {"a"}, slice(0, 1)):
            with self.assertRaises(UnknownPiece) as caught:
                ABBA[value]
            self.assertIs(caught.exception.piece, value)

    def test_in(self):
        for piece in ("a", "ab", "b", "bba"):
            self.assertIs(piece in ABBA, True)
        for value in STRANGE + ("", "ba", "abba", "c", 1, (), ABBA, {"a"}):
            self.assertIs(value in ABBA, False)
            self.assertIs(value not in ABBA, True)

    def test_iteration_and_length(self):
        self.assertEqual(list(ODD), ["a", "aa", "ab", "b", "x", "xa"])
        self.assertEqual(list(ODD), list(ODD))
        self.assertEqual([len(ABBA), len(ODD), len(NINE)], [4, 6, 3])

    def test_equal_books(self):
        same = Book({"a": 1, "b": 1, "ab": 1, "bba": 1})
        self.assertIs(same == ABBA, True)
        self.assertIs(same != ABBA, False)
        for other in (Book({"a": 1, "b": 1, "ab": 1}), Book({"a": 1, "b": 1, "ab": 1, "bba": 2}), ODD):
            self.assertIs(other == ABBA, False)
            self.assertIs(other != ABBA, True)

    def test_equality_with_every_value(self):
        for value in STRANGE + (ABBA.prices, ABBA.pieces, str(ABBA), 4, "", ()):
            self.assertIs(ABBA == value, False)
            self.assertIs(value == ABBA, False)
            self.assertIs(ABBA != value, True)
            self.assertIs(value != ABBA, True)

    def test_str(self):
        self.assertEqual(str(ODD), "book of 6 pieces, 3 signs")
        self.assertEqual(str(Book({"a": 7})), "book of 1 pieces, 1 signs")
        self.assertEqual(str(Book({piece: 2 for piece in TWELVE})), "book of 12 pieces, 2 signs")


class OverTheBook(unittest.TestCase):
    def test_accepts(self):
        for text in ("", "a", "b", "abba", "ba" * 4000):
            self.assertIs(ABBA.accepts(text), True)
        for text in ("ba" * 4000 + "a", "c", "abc", "cab", "acb", "a" * 7999 + "c"):
            self.assertIs(ABBA.accepts(text), False)

    def test_accepts_every_value(self):
        for value in STRANGE + (1, (), ("a",), ABBA, {"a"}):
            self.assertIs(ABBA.accepts(value), False)

    def test_starting(self):
        self.assertEqual(ABBA.starting(""), ())
        self.assertEqual(ABBA.starting("a"), ("a",))
        self.assertEqual(ABBA.starting("bb"), ("b",))
        self.assertEqual(ABBA.starting("bba"), ("b", "bba"))
        self.assertEqual(NINE.starting("a" * 8000), ("a", "aa", "aaa"))
        self.assertEqual(ODD.starting("xab"), ("x", "xa"))

    def test_starting_refuses(self):
        for value in STRANGE + (1, (), ("a",), ABBA, "c", "abc", "a" * 8000 + "b"):
            with self.assertRaises(InvalidText):
                ABBA.starting(value)
