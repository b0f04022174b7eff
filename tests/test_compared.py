"""Books compared, beside a plain listing of all cuts: stage 2."""

import unittest
from itertools import combinations

from cutbehind.base.books import Book
from cutbehind.base.compared import are_as_cheap, dearer_piece, is_nowhere_dearer, least_book, needless
from cutbehind.errors import InvalidBook, InvalidOperation
from tests.samples import ABBA, EIGHT, NINE, ODD, STRANGE, all_cuts, all_texts, plain_price, small_books

OF_TWO = (is_nowhere_dearer, dearer_piece, are_as_cheap)
OF_ONE = (needless, least_book)


def plain_needless(prices):
    """The pieces with a cut into at least two pieces at no greater price, by listing all cuts."""
    found = []
    for piece in sorted(prices):
        costs = [sum(prices[part] for part in cut) for cut in all_cuts(list(prices), piece) if len(cut) > 1]
        if costs and min(costs) <= prices[piece]:
            found.append(piece)
    return tuple(found)


class Examples(unittest.TestCase):
    def test_the_document(self):
        dear = ABBA.with_price("bba", 3)
        shown = [
            is_nowhere_dearer(ABBA, dear), dearer_piece(dear, ABBA), needless(dear), least_book(dear).pieces,
            (dear | ABBA) == ABBA,
        ]
        self.assertEqual(shown, [True, "bba", ("bba",), ("a", "ab", "b"), True])


class TwoBooks(unittest.TestCase):
    def test_beside_all_cuts_of_each_piece(self):
        kinds = set()
        every = small_books()
        for one in every[::3]:
            for other in every[1::4]:
                dearer = [piece for piece in sorted(other) if plain_price(one, piece) > other[piece]]
                turned = [piece for piece in sorted(one) if plain_price(other, piece) > one[piece]]
                first, second = Book(one), Book(other)
                self.assertEqual(dearer_piece(first, second), dearer[0] if dearer else None)
                self.assertIs(is_nowhere_dearer(first, second), not dearer)
                self.assertIs(are_as_cheap(first, second), not dearer and not turned)
                kinds.add((bool(dearer), bool(turned)))
        self.assertEqual(len(kinds), 4)

    def test_beside_all_texts(self):
        texts = all_texts("ab", 6)
        every = small_books()[::12]
        found = [[plain_price(prices, text) for text in texts] for prices in every]
        for one, least in zip(every, found):
            for other, others in zip(every, found):
                expected = all(low <= high for low, high in zip(least, others))
                self.assertIs(is_nowhere_dearer(Book(one), Book(other)), expected)
                self.assertIs(are_as_cheap(Book(one), Book(other)), least == others)

    def test_the_first_dearer_piece_ascending(self):
        cheap = Book({"a": 1, "b": 1, "bba": 1, "ab": 1, "aab": 1})
        dear = Book({"a": 1, "b": 1})
        self.assertEqual(dearer_piece(dear, cheap), "aab")
        self.assertIsNone(dearer_piece(cheap, dear))

    def test_a_piece_of_the_other_book_at_the_edge(self):
        three = Book({"a": 1, "b": 1, "bba": 3})
        two = Book({"a": 1, "b": 1, "bba": 2})
        plain = Book({"a": 1, "b": 1})
        self.assertEqual([dearer_piece(plain, three), dearer_piece(plain, two)], [None, "bba"])
        self.assertEqual([are_as_cheap(plain, three), are_as_cheap(plain, two)], [True, False])

    def test_a_book_beside_itself(self):
        for book in (ABBA, ODD, EIGHT, NINE):
            same = Book(book.prices)
            self.assertEqual([dearer_piece(book, same), is_nowhere_dearer(book, same)], [None, True])
            self.assertIs(are_as_cheap(same, book), True)


class OneBook(unittest.TestCase):
    def test_beside_all_cuts(self):
        numbers = set()
        for prices in small_books():
            book = Book(prices)
            expected = plain_needless(prices)
            self.assertEqual(needless(book), expected)
            left = {piece: price for piece, price in prices.items() if piece not in expected}
            self.assertEqual(least_book(book).prices, left)
            self.assertEqual(book.prices, prices)
            numbers.add(len(expected))
        self.assertEqual(numbers, {0, 1, 2, 3})

    def test_a_cut_at_just_the_price(self):
        answers = [needless(Book({"a": 2, "aa": price})) for price in (3, 4, 5)]
        self.assertEqual(answers, [(), ("aa",), ("aa",)])

    def test_pieces_of_one_sign_are_never_needless(self):
        for book in (Book({"a": 99}), Book({"a": 99, "b": 99}), Book({"a": 99, "aa": 1})):
            self.assertEqual(needless(book), ())
            self.assertTrue(least_book(book) == book)

    def test_pieces_that_make_one_another_needless(self):
        book = Book({"a": 1, "aa": 2, "aaa": 3, "aaaa": 3})
        self.assertEqual(needless(book), ("aa", "aaa"))
        self.assertEqual(least_book(book).prices, {"a": 1, "aaaa": 3})

    def test_it_is_the_least_one(self):
        for prices in small_books()[::5]:
            book = Book(prices)
            least = least_book(book)
            self.assertIs(are_as_cheap(least, book), True)
            self.assertEqual(needless(least), ())
            longer = [piece for piece in book if len(piece) > 1]
            for many in range(len(longer) + 1):
                for chosen in combinations(longer, many):
                    part = book - chosen
                    if are_as_cheap(part, book) and part != least:
                        self.assertGreater(len(part), len(least))

    def test_the_samples(self):
        self.assertEqual([needless(book) for book in (ABBA, ODD, EIGHT, NINE)], [(), (), (), ()])
        self.assertEqual(needless(NINE.with_price("aaa", 11)), ("aaa",))


class Refused(unittest.TestCase):
    def test_each_wrong_argument(self):
        for value in STRANGE + (1, (), "", "a", ABBA.prices, ABBA.pieces):
            for function in OF_ONE:
                with self.assertRaises(InvalidBook):
                    function(value)
            for function in OF_TWO:
                with self.assertRaises(InvalidBook):
                    function(value, ABBA)
                with self.assertRaises(InvalidBook):
                    function(ABBA, value)
                with self.assertRaises(InvalidBook):
                    function(value, value)

    def test_unlike_alphabets(self):
        pairs = ((ABBA, NINE), (NINE, ABBA), (ODD, EIGHT), (Book({"a": 1}), Book({"b": 1})))
        for one, other in pairs:
            for function in OF_TWO:
                with self.assertRaises(InvalidOperation):
                    function(one, other)
