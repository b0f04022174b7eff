"""Fronts, beside least prices of beginnings and a plain search: stage 5."""

import unittest
from itertools import product

from cutbehind.base.books import Book
from cutbehind.cuts.cuts import cheapest_price
from cutbehind.errors import InvalidBook, InvalidNumber, InvalidStand, InvalidText, TooMany
from cutbehind.fronts import fronts as module
from cutbehind.fronts.fronts import Fronts, front_of, next_front
from tests.samples import ABBA, EIGHT, HASTY, NINE, NO_BOOKS, NO_TEXTS, ODD, RICH, STRANGE, all_texts, beginnings
from tests.samples import WITH_2000, WITH_2001, plain_price, small_books

ONE = Book({"a": 3})
TWO = Book({"a": 3, "b": 4})
SAMPLES = (ABBA, ODD, EIGHT, NINE, ONE, TWO, Book({"a": 7, "aaa": 9, "aaaaa": 11}))
# Of the form of a front of ABBA in all but one place.
NO_FRONTS = (
    ("aba", (0, 0, 0)), ("ab", (0,)), ("ab", (0, 0, 0)), ("ab", ()), ("", (0,)), ("c", (0,)), ("A", (0,)), (None, (0,)),
    ("a", [0]), ["a", (0,)], ("a", (True,)), ("a", (False,)), ("a", (10 ** 60,)), ("a", (None,)), ("a", ("0",)),
    ("a", 0), ("a", None), ("a", ((0,),)), ("a", (0.0,)), ("a",), ("a", (0,), 0), (("a",), (0,)), "a", (),
    ("", ""), ("", None), ((0,), "a"), ("a", {0: 0}), (["a"], (0,)), ABBA, HASTY, ("a", ABBA), ("a", (ABBA,)),
    {"a": (0,)},
)


def plain_front(prices, text, longest):
    """The front as [0.13] tells it, by listing all cuts."""
    many = min(len(text), longest - 1)
    differences = [plain_price(prices, text[:-back]) - plain_price(prices, text) for back in range(1, many + 1)]
    return text[len(text) - many:], tuple(differences)


def plain_next(book, front, sign):
    """What [5.1] says."""
    signs, differences = front
    ending = signs + sign
    costs = [book[sign]]
    costs += [book[piece] + differences[len(piece) - 2] for piece in book
              if len(piece) >= 2 and ending.endswith(piece)]
    signs = ending[1:] if len(ending) > book.longest - 1 else ending
    numbers = [0 - min(costs)] + [number - min(costs) for number in differences]
    return (signs, tuple(numbers[:len(signs)])), min(costs)


def forms(book):
    """Many values of the form of a front."""
    for many in range(book.longest):
        for signs in all_texts(book.alphabet, many):
            if len(signs) == many:
                for differences in list(product((-7, -1, 0, 2), repeat=many))[::1 if many < 3 else 11]:
                    yield signs, differences


def plain_search(book):
    """A dict from each front to the number of signs of its shortest texts, by trying all texts of each length."""
    found = {}
    texts, many = [""], 0
    while texts:
        fronts = {}
        for text in texts:
            front = front_of(book, text)
            if front not in found:
                fronts.setdefault(front, text)
        found.update(dict.fromkeys(fronts, many))
        texts = [text + sign for text in fronts.values() for sign in book.alphabet]
        many += 1
    return found


class Examples(unittest.TestCase):
    def test_the_document(self):
        self.assertEqual(
            [front_of(ABBA, text) for text in ("", "a", "abb", "abba", "bba")],
            [("", ()), ("a", (-1,)), ("bb", (-1, -1)), ("ba", (0, -1)), ("ba", (1, 0))],
        )
        fronts = Fronts(ABBA)
        self.assertEqual(
            [next_front(ABBA, ("bb", (-1, -2)), "a"), len(fronts), fronts.spread, fronts[("ba", (1, 0))]],
            [(("ba", (1, 0)), -1), 15, 2, "bba"],
        )

    def test_the_constant(self):
        self.assertEqual(module.MAX_FRONTS, 2000)


class OfTexts(unittest.TestCase):
    def test_beside_all_cuts(self):
        for prices in small_books()[::4] + [book.prices for book in SAMPLES]:
            book = Book(prices)
            for text in all_texts(book.alphabet, 5)[::2]:
                self.assertEqual(front_of(book, text), plain_front(prices, text, book.longest))

    def test_beside_least_prices_up_to_30_signs(self):
        for prices in small_books()[::7] + [book.prices for book in SAMPLES]:
            book = Book(prices)
            for text in beginnings(("".join(book.alphabet) + "".join(book.pieces) * 30)[:30]):
                signs, differences = front_of(book, text)
                many = min(len(text), book.longest - 1)
                self.assertEqual(signs, text[len(text) - many:])
                least = cheapest_price(book, text)
                shorter = [text[:len(text) - back] for back in range(1, many + 1)]
                self.assertEqual(differences, tuple(cheapest_price(book, part) - least for part in shorter))

    def test_8000_signs(self):
        for book in (ABBA, NINE, ODD):
            text = ("".join(book.pieces) * 8000)[:8000]
            front, price = front_of(book, text), cheapest_price(book, text)
            parts = [cheapest_price(book, text[:8000 - back]) - price for back in range(1, book.longest)]
            self.assertEqual(front, (text[8001 - book.longest:], tuple(parts)))
            with self.assertRaises(InvalidText):
                front_of(book, text + "a")

    def test_a_book_of_pieces_of_one_sign(self):
        for text in ("", "a", "abba"):
            self.assertEqual(front_of(TWO, text), ("", ()))
        self.assertEqual([next_front(TWO, ("", ()), sign) for sign in "ab"], [(("", ()), 3), (("", ()), 4)])
        self.assertEqual(Fronts(TWO).rows, (("", ()),))
        self.assertEqual([Fronts(ONE).spread, Fronts(ONE)[("", ())], Fronts(ONE).layer(0)], [0, "", (("", ()),)])


class FromSignToSign(unittest.TestCase):
    def test_from_text_to_text(self):
        for prices in small_books()[::3] + [book.prices for book in SAMPLES]:
            book = Book(prices)
            for text in all_texts(book.alphabet, 5)[::3]:
                for sign in book.alphabet:
                    change = cheapest_price(book, text + sign) - cheapest_price(book, text)
                    expected = (front_of(book, text + sign), change)
                    self.assertEqual(next_front(book, front_of(book, text), sign), expected)

    def test_values_of_the_form_that_no_text_has(self):
        for prices in small_books()[::11] + [book.prices for book in SAMPLES[:4]]:
            book = Book(prices)
            for front in forms(book):
                for sign in book.alphabet:
                    self.assertEqual(next_front(book, front, sign), plain_next(book, front, sign))

    def test_long_integers(self):
        most = 10 ** 60 - 1
        self.assertEqual(next_front(ABBA, ("bb", (most, -most)), "a"), (("ba", (most - 1, 2 * most - 1)), 1 - most))
        self.assertEqual(next_front(ABBA, ("bb", (most, 5)), "b"), (("bb", (-1, most - 1)), 1))

    def test_books_and_forms_and_signs_are_refused(self):
        for value in NO_BOOKS:
            with self.assertRaises(InvalidBook):
                next_front(value, None, None)
            with self.assertRaises(InvalidBook):
                front_of(value, None)
            with self.assertRaises(InvalidBook):
                Fronts(value)
        for value in STRANGE + NO_FRONTS:
            for sign in ("a", "c", None):
                with self.assertRaises(InvalidStand):
                    next_front(ABBA, value, sign)
        for sign in STRANGE + ("", "c", "ab", ("a",), ["a"], 1, ABBA):
            with self.assertRaises(InvalidText):
                next_front(ABBA, ("a", (-1,)), sign)
        for value in NO_TEXTS:
            with self.assertRaises(InvalidText):
                front_of(ABBA, value)


class Reached(unittest.TestCase):
    def test_beside_a_plain_search(self):
        for prices in small_books()[::6] + [book.prices for book in SAMPLES]:
            book = Book(prices)
            fronts, expected = Fronts(book), plain_search(book)
            self.assertEqual(fronts.rows, tuple(sorted(expected)))
            self.assertEqual([list(fronts), len(fronts)], [sorted(expected), len(expected)])
            differences = [abs(number) for front in expected for number in front[1]]
            self.assertEqual(fronts.spread, max(differences, default=0))
            for front, many in expected.items():
                self.assertIs(front in fronts, True)
                self.assertEqual([front_of(book, fronts[front]), len(fronts[front])], [front, many])
            for many in range(max(expected.values()) + 3):
                layer = tuple(sorted(front for front in expected if expected[front] == many))
                self.assertEqual(fronts.layer(many), layer)

    def test_all_texts_have_one_of_them(self):
        for book in (ABBA, NINE, EIGHT):
            fronts = Fronts(book)
            self.assertTrue(all(front_of(book, text) in fronts for text in all_texts(book.alphabet, 7)))

    def test_values_that_are_not_reached(self):
        fronts = Fronts(ABBA)
        reached = set(fronts.rows)
        near = tuple(front for front in forms(ABBA) if front not in reached)
        self.assertGreater(len(near), 20)
        for value in STRANGE + NO_FRONTS + near:
            self.assertIs(value in fronts, False)
            with self.assertRaises(InvalidStand):
                fronts[value]

    def test_true_is_not_one(self):
        fronts = Fronts(ABBA)
        self.assertIn(("ba", (1, 0)), fronts)
        for front in (("ba", (True, 0)), ("ba", (1, False)), ("ba", (True, False))):
            self.assertIs(front in fronts, False)
            with self.assertRaises(InvalidStand):
                fronts[front]

    def test_layers(self):
        fronts = Fronts(ABBA)
        self.assertEqual([fronts.layer(0), fronts.layer(1)], [(("", ()),), (("a", (-1,)), ("b", (-1,)))])
        for many in (100, 2000, 10 ** 60 - 1):
            self.assertEqual(fronts.layer(many), ())
        for value in STRANGE + (-1, True, False, "1", (1,), 10 ** 60, ABBA):
            if value not in (0, 100) or isinstance(value, bool):
                with self.assertRaises(InvalidNumber) as caught:
                    fronts.layer(value)
                self.assertIs(caught.exception.value, value)

    def test_nothing_can_be_set(self):
        fronts = Fronts(ABBA)
        for name in ("rows", "spread"):
            with self.assertRaises(AttributeError):
                setattr(fronts, name, None)

    def test_every_value_can_be_compared(self):
        fronts = Fronts(ABBA)
        for value in STRANGE + (fronts.rows, ABBA, 15):
            self.assertIs(fronts == value, False)
            self.assertIs(fronts != value, True)
        self.assertIs(fronts == fronts, True)

    def test_more_than_2000(self):
        for book in (RICH, WITH_2001):
            with self.assertRaises(TooMany) as caught:
                Fronts(book)
            self.assertEqual(caught.exception.limit, 2000)

    def test_exactly_2000(self):
        fronts = Fronts(WITH_2000)
        self.assertEqual([len(fronts), len(set(fronts.rows))], [2000, 2000])
        self.assertTrue(all(front_of(WITH_2000, fronts[front]) == front for front in fronts.rows[::100]))
