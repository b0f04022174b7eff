"""Inputs over which the searches through fronts, stands and besides once took long: the answers are the same."""

import unittest

from cutbehind.base.books import Book
from cutbehind.bounds.excess import excess_paper, is_excess_paper
from cutbehind.bounds.fractions import fraction_of, fraction_paper, is_fraction_paper
from cutbehind.cuts.cutters import Cutter
from cutbehind.errors import TooMany
from cutbehind.fronts.fronts import Fronts
from cutbehind.stands.stands import Stands
from cutbehind.view.safe import is_safe, is_safe_paper, safe_paper
from tests.samples import WITH_2000

LARGE = {
    "a": 99, "b": 99, "c": 99, "aabca": 3, "abca": 2, "bacab": 1, "bbcac": 3, "bacb": 1, "abb": 2, "ccc": 5, "cba": 17,
    "acbc": 31,
}
DEAR = Cutter(Book({"a": 1, "b": 1, "ab": 3}), ("ab", "a", "b"), view=10)
SINGLE = Cutter(Book({"a": 1, "b": 1}), ("a", "b"), view=10)


class Searches(unittest.TestCase):
    def refuse(self, call):
        # What was found once is kept, so it is asked twice.
        for _ in range(2):
            with self.assertRaises(TooMany) as caught:
                call()
            self.assertEqual(caught.exception.limit, 2000)

    def test_safe_pieces_of_a_large_book(self):
        book = Book(LARGE)
        self.refuse(lambda: is_safe(book, "aabca", "aabca"))
        self.refuse(lambda: is_safe(Book(LARGE), "aabca", "aabca"))

    def test_fronts_of_a_large_book(self):
        book = Book(LARGE)
        self.refuse(lambda: Fronts(book))

    def test_a_fraction_over_1023_stands(self):
        kind, fraction, text, numbers = fraction_paper(DEAR)
        self.assertEqual([kind, fraction, fraction_of(DEAR), text], ["reached", (3, 2), (3, 2), "ab"])
        self.assertEqual([len(numbers), len(Stands(DEAR))], [1022, 1023])
        for _ in range(3):
            self.assertIs(is_fraction_paper(DEAR, (kind, fraction, text, numbers)), True)
            self.assertIs(is_fraction_paper(DEAR, (kind, fraction, "a", numbers)), False)

    def test_stands_of_a_long_view(self):
        cutter = Cutter(Book({"a": 1, "b": 1}), ("a", "b"), view=20)
        self.refuse(lambda: Stands(cutter))

    def test_a_bound_over_1023_stands(self):
        kind, number, text, numbers = excess_paper(SINGLE)
        self.assertEqual([kind, number, len(numbers), len(Stands(SINGLE))], ["bound", 0, 1023, 1023])
        for _ in range(3):
            self.assertIs(is_excess_paper(SINGLE, (kind, number, text, numbers)), True)
            self.assertIs(is_excess_paper(SINGLE, (kind, 1, text, numbers)), False)

    def test_many_values_over_2000_besides(self):
        kind, besides = safe_paper(WITH_2000, "baaa", "baaa")
        self.assertEqual([kind, len(besides)], ["safe", 2000])
        self.assertIs(is_safe_paper(WITH_2000, "baaa", "baaa", (kind, besides)), True)
        for place in range(0, 2000, 400):
            fewer = besides[:place] + besides[place + 1:]
            self.assertIs(is_safe_paper(WITH_2000, "baaa", "baaa", (kind, fewer)), False)
            self.assertIs(is_safe_paper(WITH_2000, "baaa", "baaa", ("against", "ab" * place)), False)

    def test_what_is_kept_is_not_shared(self):
        for function in (excess_paper, fraction_paper):
            first = function(SINGLE)
            first[3].clear()
            self.assertGreater(len(function(SINGLE)[3]), 1000)
