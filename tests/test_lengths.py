"""The worst texts of each length, beside all texts up to some length: stage 15."""

import unittest
from itertools import islice

from cutbehind.base.books import Book
from cutbehind.bounds import lengths as module
from cutbehind.bounds.excess import excess_paper, greatest_excess
from cutbehind.bounds.lengths import all_worst, count_worst, is_worst, worst_by_length, worst_of_length
from cutbehind.cuts.cutters import Cutter
from cutbehind.errors import InvalidCutter, InvalidNumber, TooMany
from cutbehind.stands.stands import Stands
from tests.samples import ABBA, EARLY, HASTY, LONGEST_EIGHT, LONGEST_NINE, NO_CUTTERS, ODD, SEEING, STRANGE
from tests.samples import all_texts, small_cutters

EVERY = small_cutters()[::2] + [HASTY, SEEING, EARLY, LONGEST_NINE, LONGEST_EIGHT, Cutter.longest_first(ODD)]
FUNCTIONS = (worst_by_length, worst_of_length, count_worst, lambda cutter, many: next(all_worst(cutter, many)))
NO_LENGTHS = tuple(value for value in STRANGE if value not in (0, 100)) + (
    -1, 401, 10 ** 40, True, False, None, "1", (1,), 1.0, ABBA,
)


def plain_row(cutter, most):
    """For each number of signs the greatest amount, and the texts that have it."""
    rows = [(0, [""])]
    for many in range(1, most + 1):
        texts = [text for text in all_texts(cutter.book.alphabet, many) if len(text) == many]
        amounts = [cutter.behind(text) for text in texts]
        rows.append((max(amounts), [text for text, amount in zip(texts, amounts) if amount == max(amounts)]))
    return rows


class Examples(unittest.TestCase):
    def test_the_document(self):
        self.assertEqual(
            [worst_by_length(HASTY, 8), count_worst(HASTY, 4), list(all_worst(HASTY, 4)), worst_of_length(HASTY, 7)],
            [(0, 0, 0, 0, 1, 1, 1, 2, 2), 1, ["abba"], "abbabba"],
        )
        self.assertEqual(worst_by_length(LONGEST_NINE, 7), (0, 0, 0, 0, 7, 0, 0, 7))
        self.assertEqual(
            [worst_by_length(LONGEST_EIGHT, 3), count_worst(HASTY, 2), is_worst(HASTY, "abb")], [(0, 0, 0, 8), 4, True],
        )

    def test_all_four_books(self):
        cutters = (HASTY, Cutter.longest_first(ODD), LONGEST_EIGHT, LONGEST_NINE)
        self.assertEqual([worst_by_length(cutter, 6)[-1] for cutter in cutters], [1, 16, 8, 0])

    def test_the_constant(self):
        self.assertEqual(module.MAX_LENGTHS, 400)


class BesideAllTexts(unittest.TestCase):
    def test_rows_and_lists(self):
        for cutter in EVERY:
            rows = plain_row(cutter, 6 if len(cutter.book.alphabet) < 3 else 4)
            self.assertEqual(worst_by_length(cutter, len(rows) - 1), tuple(amount for amount, _ in rows))
            for many, (amount, texts) in enumerate(rows):
                self.assertEqual(list(all_worst(cutter, many)), texts)
                self.assertEqual(count_worst(cutter, many), len(texts))
                self.assertIn(worst_of_length(cutter, many), texts)
                for text in all_texts(cutter.book.alphabet, many):
                    if len(text) == many:
                        self.assertIs(is_worst(cutter, text), text in texts)

    def test_the_number_does_not_matter_for_the_row(self):
        for cutter in EVERY:
            row = worst_by_length(cutter, 40)
            self.assertEqual([worst_by_length(cutter, many) for many in range(41)],
                             [row[:many + 1] for many in range(41)])

    def test_the_row_can_fall(self):
        rows = [worst_by_length(cutter, 40) for cutter in EVERY]
        self.assertTrue(any(row != tuple(sorted(row)) for row in rows))
        self.assertEqual(worst_by_length(EARLY, 4)[2], 2)
        self.assertLess(worst_by_length(EARLY, 4)[3], 2)

    def test_400_signs(self):
        for cutter in (HASTY, LONGEST_NINE, SEEING):
            row = worst_by_length(cutter, 400)
            self.assertEqual(len(row), 401)
            for many in (0, 1, 399, 400):
                text = worst_of_length(cutter, many)
                self.assertEqual([len(text), cutter.behind(text)], [many, row[many]])
                self.assertIs(is_worst(cutter, text), True)
        self.assertEqual(worst_by_length(HASTY, 400), tuple(max(0, (many - 1) // 3) for many in range(401)))
        self.assertEqual([count_worst(SEEING, 400), count_worst(LONGEST_NINE, 400)], [2 ** 400, 1])
        self.assertEqual(list(islice(all_worst(SEEING, 400), 3)), ["a" * 400, "a" * 399 + "b", "a" * 398 + "ba"])
        self.assertEqual(list(all_worst(HASTY, 400)), [worst_of_length(HASTY, 400)])


class BesideTheExcess(unittest.TestCase):
    def test_the_greatest_one_is_in_the_row(self):
        bounded = 0
        for cutter in EVERY:
            greatest, many = greatest_excess(cutter), len(Stands(cutter))
            if greatest is not None and many <= 400:
                row = worst_by_length(cutter, many)
                self.assertEqual(max(row), greatest)
                self.assertLessEqual(max(worst_by_length(cutter, 400)), greatest)
                bounded += 1
        self.assertGreater(bounded, 5)

    def test_round_by_round(self):
        rings = 0
        for cutter in EVERY:
            paper = excess_paper(cutter)
            if paper[0] == "ring":
                _, u, v = paper
                row = worst_by_length(cutter, len(u) + 5 * len(v))
                for many in range(6):
                    self.assertGreaterEqual(row[len(u) + many * len(v)], cutter.behind(u + v * many))
                self.assertGreater(row[-1], row[len(u)])
                rings += 1
        self.assertGreater(rings, 5)


class Worst(unittest.TestCase):
    def test_values_of_every_kind(self):
        for value in STRANGE + (None, 1, (), ("abba",), ["abba"], "c", "abbc", "A", ABBA, HASTY, {"abba": 1}, True):
            self.assertIs(is_worst(HASTY, value), False)
        self.assertIs(is_worst(HASTY, ""), True)

    def test_texts_of_400_signs_and_of_401(self):
        for many, expected in ((399, True), (400, True), (401, False), (8000, False), (8001, False)):
            self.assertIs(is_worst(SEEING, "a" * many), expected)
        text = worst_of_length(HASTY, 400)
        self.assertEqual([is_worst(HASTY, text), is_worst(HASTY, text + "a"), is_worst(HASTY, "a" * 400)],
                         [True, False, False])


class Refused(unittest.TestCase):
    def test_cutters(self):
        for value in NO_CUTTERS:
            for call in FUNCTIONS:
                for many in (3, -1, None):
                    with self.assertRaises(InvalidCutter):
                        call(value, many)
            with self.assertRaises(InvalidCutter):
                is_worst(value, "a")

    def test_numbers(self):
        for cutter in (HASTY, HASTY.with_view(12)):
            for value in NO_LENGTHS:
                for call in FUNCTIONS:
                    with self.assertRaises(InvalidNumber) as caught:
                        call(cutter, value)
                    self.assertIs(caught.exception.value, value)
        self.assertEqual([worst_by_length(HASTY, 0), worst_of_length(HASTY, 0), count_worst(HASTY, 0)], [(0,), "", 1])
        self.assertEqual(list(all_worst(HASTY, 0)), [""])

    def test_more_than_2000_stands(self):
        cutter = HASTY.with_view(12)
        calls = [lambda call=call: call(cutter, 3) for call in FUNCTIONS]
        calls += [lambda value=value: is_worst(cutter, value) for value in STRANGE + ("abba", "")]
        for call in calls:
            with self.assertRaises(TooMany) as caught:
                call()
            self.assertEqual(caught.exception.limit, 2000)

    def test_the_generator_raises_when_it_is_asked(self):
        for values in ((None, 1), (HASTY, 401), (HASTY.with_view(12), 4)):
            texts = all_worst(*values)
            with self.assertRaises((InvalidCutter, InvalidNumber, TooMany)):
                next(texts)

    def test_one_stand(self):
        cutter = Cutter.longest_first(Book({"a": 5, "b": 2}))
        self.assertEqual([worst_by_length(cutter, 3), count_worst(cutter, 10)], [(0, 0, 0, 0), 1024])
