"""The operators of books, and books with a price: stage 2."""

import unittest

from cutbehind.base.books import Book
from cutbehind.errors import InvalidNumber, InvalidOperation, InvalidText
from tests.samples import ABBA, EIGHT, NINE, ODD, STRANGE, small_books

OTHER = Book({"a": 3, "b": 1, "ba": 2, "bba": 4})
# Seven pieces each, of which only a is in both.
SEVEN = Book({"a": 1, "aa": 1, "ab": 1, "b": 1, "ba": 1, "bb": 1, "aaa": 1})
MORE = Book({"a": 1, "c": 1, "ac": 1, "ca": 1, "cc": 1, "aac": 1, "cca": 1})


class Joined(unittest.TestCase):
    def test_the_lesser_price(self):
        expected = {"a": 1, "ab": 1, "b": 1, "ba": 2, "bba": 1}
        self.assertEqual((ABBA | OTHER).prices, expected)
        self.assertEqual((OTHER | ABBA).prices, expected)
        self.assertEqual(list((OTHER | ABBA).prices), sorted(expected))

    def test_other_alphabets(self):
        self.assertEqual((NINE | ODD).prices, {"a": 9, "aa": 1, "aaa": 2, "ab": 1, "b": 9, "x": 1, "xa": 1})
        self.assertEqual((ABBA | EIGHT).alphabet, ("a", "b", "x"))

    def test_results_that_are_no_book(self):
        self.assertEqual([len(SEVEN), len(MORE), len(SEVEN | MORE - ("cca",))], [7, 7, 12])
        with self.assertRaises(InvalidOperation):
            SEVEN | MORE
        with self.assertRaises(InvalidOperation):
            MORE | SEVEN
        many = Book({"c": 1, "d": 1, "e": 1})
        self.assertEqual((many | NINE).alphabet, ("a", "c", "d", "e"))
        with self.assertRaises(InvalidOperation):
            many | ABBA

    def test_other_values(self):
        for value in STRANGE + (1, (), "", "a", ABBA.prices, ABBA.pieces, {"a"}):
            with self.assertRaises(InvalidOperation):
                ABBA | value


class Shared(unittest.TestCase):
    def test_the_greater_price(self):
        expected = {"a": 3, "b": 1, "bba": 4}
        self.assertEqual((ABBA & OTHER).prices, expected)
        self.assertEqual((OTHER & ABBA).prices, expected)
        self.assertEqual(list((OTHER & ABBA).prices), sorted(expected))

    def test_other_alphabets(self):
        self.assertEqual((NINE & ODD).prices, {"a": 9, "aa": 2})
        self.assertEqual((SEVEN & MORE).prices, {"a": 1})
        self.assertEqual((ABBA & EIGHT).prices, {"a": 9})

    def test_results_that_are_no_book(self):
        for one, other in ((NINE, Book({"b": 1})), (Book({"x": 1, "y": 1}), ABBA)):
            with self.assertRaises(InvalidOperation):
                one & other
            with self.assertRaises(InvalidOperation):
                other & one

    def test_other_values(self):
        for value in STRANGE + (1, (), "", "a", ABBA.prices, ABBA.pieces, {"a"}):
            with self.assertRaises(InvalidOperation):
                ABBA & value


class Without(unittest.TestCase):
    def test_some_pieces(self):
        self.assertEqual((ABBA - ("ab",)).prices, {"a": 1, "b": 1, "bba": 1})
        self.assertEqual((ABBA - ("ab", "bba")).prices, {"a": 1, "b": 1})
        self.assertEqual((ODD - ("ab", "b")).alphabet, ("a", "x"))

    def test_no_pieces(self):
        self.assertTrue(ABBA - () == ABBA)

    def test_results_that_are_no_book(self):
        for pieces in (("a",), ("b",), ("a", "ab"), ("a", "ab", "b"), ABBA.pieces):
            with self.assertRaises(InvalidOperation):
                ABBA - pieces

    def test_tuples_that_are_not_as_told(self):
        wrong = (
            ("bba", "ab"), ("ab", "ab"), ("aa",), ("ab", "abb"), ("c",), ("",), ("ab", 1), (1, "ab"),
            ("ab", None), (["ab"],), ("ab", ["bba"]), ("ab", ("bba",)), (ABBA,), ("ab", "b", "abba"),
        )
        for pieces in wrong:
            with self.assertRaises(InvalidOperation):
                ABBA - pieces

    def test_other_values(self):
        for value in STRANGE + (1, "", "ab", ["ab"], {"ab": 1}, {"ab"}, ABBA, NINE):
            with self.assertRaises(InvalidOperation):
                ABBA - value


class NewValues(unittest.TestCase):
    def test_the_variable_gets_a_new_book(self):
        one = kept = Book({"a": 2, "b": 2, "ab": 3})
        one |= OTHER
        self.assertEqual(one.prices, {"a": 2, "ab": 3, "b": 1, "ba": 2, "bba": 4})
        two = kept
        two &= OTHER
        self.assertEqual(two.prices, {"a": 3, "b": 2})
        three = kept
        three -= ("ab",)
        self.assertEqual(three.prices, {"a": 2, "b": 2})
        self.assertEqual(kept.prices, {"a": 2, "ab": 3, "b": 2})

    def test_refused_values_leave_the_variable(self):
        book = ABBA
        with self.assertRaises(InvalidOperation):
            book |= 1
        with self.assertRaises(InvalidOperation):
            book &= None
        with self.assertRaises(InvalidOperation):
            book -= ("a",)
        self.assertIs(book, ABBA)

    def test_both_books_stay_as_they_are(self):
        books = [Book(prices) for prices in small_books()[::9]]
        for one in books:
            for other in books:
                before = (one.prices, other.prices)
                union = one | other
                shared = one & other
                self.assertEqual((one.prices, other.prices), before)
                for piece in sorted(set(one.pieces + other.pieces)):
                    worth = [book[piece] for book in (one, other) if piece in book]
                    self.assertEqual(union[piece], min(worth))
                    self.assertEqual(piece in shared, len(worth) == 2)
                    if len(worth) == 2:
                        self.assertEqual(shared[piece], max(worth))
                self.assertTrue(set(union) == set(one) | set(other))


class WithPrice(unittest.TestCase):
    def test_a_price_that_is_replaced(self):
        dear = ABBA.with_price("bba", 3)
        self.assertEqual(dear.prices, {"a": 1, "ab": 1, "b": 1, "bba": 3})
        self.assertEqual(ABBA["bba"], 1)
        self.assertTrue(ABBA.with_price("a", 1) == ABBA)

    def test_a_price_that_is_added(self):
        more = ABBA.with_price("aa", 99)
        self.assertEqual(list(more.prices.items()), [("a", 1), ("aa", 99), ("ab", 1), ("b", 1), ("bba", 1)])
        self.assertEqual(ABBA.with_price("c", 1).alphabet, ("a", "b", "c"))
        self.assertEqual(len(ABBA), 4)

    def test_no_piece(self):
        for value in STRANGE + (1, (), "", "aaaaaa", "abC", ABBA):
            with self.assertRaises(InvalidText):
                ABBA.with_price(value, 1)

    def test_no_price(self):
        for value in STRANGE + (0, 100, -1, 1.0, "1", (), ABBA):
            with self.assertRaises(InvalidNumber) as caught:
                ABBA.with_price("ab", value)
            self.assertIs(caught.exception.value, value)

    def test_prices_at_the_edges(self):
        self.assertEqual([ABBA.with_price("ab", price)["ab"] for price in (1, 99)], [1, 99])

    def test_results_that_are_no_book(self):
        twelve = (SEVEN | MORE - ("cca",))
        self.assertEqual(twelve.with_price("aa", 5)["aa"], 5)
        four = Book({"a": 1, "b": 1, "c": 1, "d": 1})
        for book, piece in ((twelve, "cca"), (four, "e"), (ABBA, "ac"), (ABBA, "cc")):
            before = book.prices
            with self.assertRaises(InvalidOperation):
                book.with_price(piece, 1)
            self.assertEqual(book.prices, before)

    def test_the_order_of_the_errors(self):
        with self.assertRaises(InvalidText):
            ABBA.with_price("abbabb", 0)
        with self.assertRaises(InvalidText):
            ABBA.with_price(None, True)
        with self.assertRaises(InvalidNumber):
            ABBA.with_price("ac", 100)
        with self.assertRaises(InvalidOperation):
            ABBA.with_price("ac", 99)
