"""Cuts, beside a plain listing of all cuts: stage 3."""

import unittest
from itertools import product

from cutbehind.base.books import Book
from cutbehind.cuts import cuts as module
from cutbehind.cuts.cuts import cheapest, cheapest_cuts, cheapest_price, count_cheapest, count_cuts, cuts, harmless
from cutbehind.cuts.cuts import is_cut, loss, price_of
from cutbehind.errors import InvalidBook, InvalidOperation, InvalidText, TooMany
from tests.samples import ABBA, EIGHT, HASTY, NINE, NO_BOOKS, NO_TEXTS, ODD, STRANGE, all_cuts, all_texts
from tests.samples import plain_loss, small_books

# By these pieces a run of a has 1, 1, 2, 4, 8, 15, 29 cuts, and one of b has 5 cuts for 7 signs, 69 for 15. All are
# equally cheap.
EVEN = Book({"a": 1, "aa": 2, "aaa": 3, "aaaa": 4, "b": 1, "bbbb": 4})
WITH_2000 = "b" * 7 + "aaaa" + "b" * 7 + "aa" + "b" * 7
WITH_2001 = "a" * 6 + "b" * 15
GENERATORS = (cuts, cheapest_cuts)
OF_TEXT = (cheapest_price, cheapest, count_cuts, count_cheapest, harmless)


def all_of(function):
    """The generator as a function whose errors are raised at once."""
    return lambda *values: list(function(*values))


class Examples(unittest.TestCase):
    def test_the_document(self):
        self.assertEqual(
            [cheapest(ABBA, "abba"), cheapest_price(ABBA, "abba"), list(cuts(ABBA, "abba"))],
            [("a", "bba"), 2, [("a", "b", "b", "a"), ("a", "bba"), ("ab", "b", "a")]],
        )
        self.assertEqual(
            [loss(ABBA, "abba", "ab"), harmless(ABBA, "abba"), harmless(ABBA, "abb"), count_cheapest(ABBA, "bb" * 9)],
            [1, ("a",), ("ab",), 1],
        )

    def test_the_constant(self):
        self.assertEqual(module.MAX_CUTS, 2000)


class BesideAllCuts(unittest.TestCase):
    def check(self, book, text):
        every = sorted(all_cuts(list(book), text))
        prices = [sum(book[piece] for piece in cut) for cut in every]
        least = [cut for cut, price in zip(every, prices) if price == min(prices)]
        self.assertEqual(list(cuts(book, text)), every)
        self.assertEqual(list(cheapest_cuts(book, text)), least)
        self.assertEqual(cheapest_price(book, text), min(prices))
        self.assertEqual(cheapest(book, text), least[0])
        self.assertEqual([count_cuts(book, text), count_cheapest(book, text)], [len(every), len(least)])
        self.assertEqual(harmless(book, text), tuple(sorted({cut[0] for cut in least if cut})))
        for cut, price in zip(every, prices):
            self.assertIs(is_cut(book, text, cut), True)
            self.assertEqual(price_of(book, cut), price)

    def test_small_books(self):
        texts = all_texts("ab", 5) + ["aabbaab", "babaabba", "abaabaab", "bbaabbaa"]
        for number, prices in enumerate(small_books()[::3]):
            book = Book(prices)
            for text in texts[number % 3::3]:
                self.check(book, text)

    def test_the_samples(self):
        for book in (ABBA, NINE, EIGHT):
            for text in all_texts(book.alphabet, 6):
                self.check(book, text)
        for text in all_texts("abx", 4):
            self.check(ODD, text)

    def test_the_empty_text(self):
        for book in (ABBA, NINE, ODD):
            self.assertEqual([list(cuts(book, "")), list(cheapest_cuts(book, ""))], [[()], [()]])
            self.assertEqual([cheapest(book, ""), cheapest_price(book, ""), harmless(book, "")], [(), 0, ()])
            self.assertEqual([count_cuts(book, ""), count_cheapest(book, "")], [1, 1])


class Losses(unittest.TestCase):
    def test_beside_all_cuts(self):
        for prices in small_books()[::6]:
            book = Book(prices)
            for text in all_texts("ab", 5):
                for piece in book.starting(text):
                    self.assertEqual(loss(book, text, piece), plain_loss(prices, text, piece))
                    self.assertIs(piece in harmless(book, text), plain_loss(prices, text, piece) == 0)

    def test_they_add_up_to_what_a_cut_costs_more(self):
        for prices in small_books()[::9] + [ABBA.prices, NINE.prices]:
            book = Book(prices)
            for text in all_texts(book.alphabet, 6)[::2]:
                for cut in all_cuts(list(prices), text):
                    rests = ["".join(cut[place:]) for place in range(len(cut))]
                    losses = [loss(book, rest, piece) for rest, piece in zip(rests, cut)]
                    self.assertTrue(all(number >= 0 for number in losses))
                    self.assertEqual(sum(losses), price_of(book, cut) - cheapest_price(book, text))


class Limits(unittest.TestCase):
    def test_exactly_2000_cuts(self):
        self.assertEqual([count_cuts(EVEN, WITH_2000), count_cheapest(EVEN, WITH_2000)], [2000, 2000])
        for generator in GENERATORS:
            found = list(generator(EVEN, WITH_2000))
            self.assertEqual(found, sorted(set(found)))
            self.assertEqual(len(found), 2000)
            self.assertTrue(all(is_cut(EVEN, WITH_2000, cut) for cut in found))

    def test_one_more(self):
        self.assertEqual([count_cuts(EVEN, WITH_2001), count_cheapest(EVEN, WITH_2001)], [2001, 2001])
        for generator in GENERATORS:
            with self.assertRaises(TooMany) as caught:
                next(generator(EVEN, WITH_2001))
            self.assertEqual(caught.exception.limit, 2000)

    def test_the_cheapest_ones_alone_may_be_few(self):
        dearer = EVEN.with_price("aaaa", 5)
        # Of 2001 cuts, those with aaaa are not the cheapest ones.
        few = [cut for cut in all_cuts(list(dearer), "a" * 6) if "aaaa" not in cut]
        self.assertEqual(len(list(cheapest_cuts(dearer, WITH_2001))), len(few) * 69)
        with self.assertRaises(TooMany):
            next(cuts(dearer, WITH_2001))
        uneven = Book({"a": 2, "aa": 3})
        self.assertEqual(list(cheapest_cuts(uneven, "a" * 8000)), [("aa",) * 4000])
        with self.assertRaises(TooMany):
            next(cuts(uneven, "a" * 8000))

    def test_one_cut_of_8000_pieces(self):
        self.assertEqual(list(cuts(Book({"a": 7}), "a" * 8000)), [("a",) * 8000])
        self.assertEqual(cheapest(Book({"a": 7}), "a" * 8000), ("a",) * 8000)

    def test_long_texts_whose_parts_alone_have_turns(self):
        for text in ("aab" + "a" * 7997, "a" * 7997 + "baa"):
            book = Book({"a": 1, "ab": 1, "b": 1, "ba": 1})
            found = list(cuts(book, text))
            self.assertEqual(found, sorted(set(found)))
            self.assertEqual(len(found), count_cuts(book, text))
            self.assertTrue(all("".join(cut) == text for cut in found))


class LongTexts(unittest.TestCase):
    def test_counts_of_thousands_of_digits(self):
        book = Book({"a": 1, "aa": 2})
        older, newer = 1, 1
        for _ in range(7999):
            older, newer = newer, older + newer
        self.assertGreater(newer, 10 ** 1600)
        self.assertEqual(count_cuts(book, "a" * 8000), newer)
        self.assertEqual(count_cheapest(book, "a" * 8000), newer)
        self.assertEqual(count_cheapest(book.with_price("aa", 1), "a" * 8000), 1)
        self.assertEqual(count_cheapest(book.with_price("aa", 1), "a" * 7999), 4000)
        self.assertEqual(count_cuts(Book({"a": 3}), "a" * 8000), 1)

    def test_8000_signs(self):
        text = "abba" * 2000
        self.assertEqual(cheapest_price(ABBA, text), 4000)
        self.assertEqual(cheapest(ABBA, text), ("a", "bba") * 2000)
        self.assertEqual([harmless(ABBA, text), loss(ABBA, text, "ab"), loss(ABBA, text, "a")], [("a",), 1, 0])
        self.assertIs(is_cut(ABBA, text, ("ab", "b", "a") * 2000), True)
        self.assertEqual(price_of(ABBA, ("ab", "b", "a") * 2000), 6000)
        self.assertEqual(price_of(ABBA, ("ab", "b", "a") * 5000), 15000)
        self.assertEqual(list(cheapest_cuts(ABBA, "bba" * 2666)), [("bba",) * 2666])

    def test_8001_signs(self):
        text = "abba" * 2000 + "a"
        for function in OF_TEXT + (all_of(cuts), all_of(cheapest_cuts)):
            with self.assertRaises(InvalidText):
                function(ABBA, text)
        for function in (is_cut, loss):
            with self.assertRaises(InvalidText):
                function(ABBA, text, "a")


class NearACut(unittest.TestCase):
    def test_tuples_near_a_cut(self):
        for text in ("abba", "bbabba", "aab"):
            for cut in all_cuts(list(ABBA), text):
                near = [cut + (piece,) for piece in ABBA] + [(piece,) + cut for piece in ABBA]
                for place, piece in enumerate(cut):
                    near.append(cut[:place] + cut[place + 1:])
                    near.append(cut[:place] + (piece, piece) + cut[place + 1:])
                    near.extend(cut[:place] + (other,) + cut[place + 1:] for other in ABBA if other != piece)
                    near.extend(cut[:place] + (other,) + cut[place + 1:] for other in ("", "c", "bb", piece + "a"))
                    near.extend(cut[:place] + (other,) + cut[place + 1:] for other in STRANGE)
                for value in near:
                    self.assertIs(is_cut(ABBA, text, value), False, value)
                for value in (text, "".join(cut), list(cut), cut + ("",), ("",) + cut, (cut,), {cut: 1}):
                    self.assertIs(is_cut(ABBA, text, value), False, value)

    def test_joined_parts_that_are_no_pieces(self):
        for value in (("abba",), ("abb", "a"), ("ab", "ba"), ("a", "b", "ba"), ("a", "bb", "a")):
            self.assertIs(is_cut(ABBA, "abba", value), False)
            with self.assertRaises(InvalidText):
                price_of(ABBA, value)

    def test_every_other_value(self):
        for value in STRANGE + (1, "", "abba", ABBA, HASTY, {"abba"}):
            self.assertIs(is_cut(ABBA, "abba", value), False)
            self.assertIs(is_cut(ABBA, "", value), False)
        self.assertIs(is_cut(ABBA, "", ()), True)
        self.assertIs(is_cut(ABBA, "a", ()), False)

    def test_prices_of_tuples(self):
        self.assertEqual([price_of(ODD, ()), price_of(ODD, ("a", "xa", "a")), price_of(NINE, ("aa",) * 3)], [0, 19, 6])
        for cut in product(ABBA, repeat=3):
            self.assertEqual(price_of(ABBA, cut), 3)

    def test_prices_of_other_values(self):
        near = (
            ["a"], "a", "", {"a": 1}, ("a", "c"), ("a", ""), ("a", None), ("a", ["b"]), ("a", ("b",)), (("a",),), {"a"},
        )
        strange = tuple(value for value in STRANGE if value != ("a", "a", "a"))
        for value in strange + near + (ABBA, HASTY, 1, None):
            with self.assertRaises(InvalidText):
                price_of(ABBA, value)


class Refused(unittest.TestCase):
    def test_books(self):
        for value in NO_BOOKS:
            for function in OF_TEXT + (all_of(cuts), all_of(cheapest_cuts)):
                for text in ("ab", "abc", None):
                    with self.assertRaises(InvalidBook):
                        function(value, text)
            for function in (is_cut, loss):
                for text in ("ab", None):
                    with self.assertRaises(InvalidBook):
                        function(value, text, None)
            with self.assertRaises(InvalidBook):
                price_of(value, None)

    def test_texts(self):
        for value in NO_TEXTS:
            for function in OF_TEXT + (all_of(cuts), all_of(cheapest_cuts)):
                with self.assertRaises(InvalidText):
                    function(ABBA, value)
            for third in ("a", None, ()):
                with self.assertRaises(InvalidText):
                    is_cut(ABBA, value, third)
                with self.assertRaises(InvalidText):
                    loss(ABBA, value, third)

    def test_pieces_with_which_the_text_does_not_begin(self):
        for value in STRANGE + ("", "b", "bba", "abb", "c", (), ("ab",), ABBA):
            with self.assertRaises(InvalidOperation):
                loss(ABBA, "abba", value)
        for piece in ABBA:
            with self.assertRaises(InvalidOperation):
                loss(ABBA, "", piece)

    def test_generators_raise_when_the_first_cut_is_asked_for(self):
        for generator in GENERATORS:
            for error, values in (
                (InvalidBook, (None, "a")), (InvalidText, (ABBA, "c")), (TooMany, (EVEN, WITH_2001)),
            ):
                made = generator(*values)
                with self.assertRaises(error):
                    next(made)

    def test_generators_of_their_own(self):
        one, other = cuts(ABBA, "abba"), cuts(ABBA, "abba")
        first, second = ("a", "b", "b", "a"), ("a", "bba")
        self.assertEqual([next(one), next(one), next(other)], [first, second, first])
        self.assertEqual([list(one), list(other)], [[("ab", "b", "a")], [("a", "bba"), ("ab", "b", "a")]])
