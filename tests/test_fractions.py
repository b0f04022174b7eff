"""Least fractions, beside the greatest ratios of short texts: stage 9."""

import unittest
from fractions import Fraction
from math import gcd

from cutbehind.base.books import Book
from cutbehind.bounds.fractions import fraction_of, fraction_paper, is_fraction_paper, is_within_fraction
from cutbehind.cuts.cuts import cheapest_price
from cutbehind.cuts.cutters import Cutter
from cutbehind.errors import InvalidCutter, InvalidOperation, TooMany
from cutbehind.stands.stands import Stands, end_price, next_stand, spent, stand_of
from tests.samples import ABBA, EARLY, EIGHT, HASTY, LONGEST_EIGHT, LONGEST_NINE, NINE, NO_CUTTERS, ODD, SEEING
from tests.samples import STRANGE, all_texts, greatest_numbers, small_cutters

SHORTEST = [Cutter.shortest_first(book) for book in (ABBA, ODD, EIGHT, NINE)]
LONGEST = [HASTY, Cutter.longest_first(ODD), LONGEST_EIGHT, LONGEST_NINE]
EVERY = small_cutters() + SHORTEST + LONGEST + [SEEING, EARLY, HASTY.with_view(1), HASTY.with_view(4)]
REACHED = [LONGEST_NINE, EARLY, SEEING, SHORTEST[0]]
# Another one besides HASTY whose fraction no text reaches.
NEVER_REACHED = Cutter(Book({"a": 2, "abb": 2, "b": 1, "ba": 5}), ("abb", "ba", "a", "b"), view=2)
NO_FRACTIONS = STRANGE + (
    (2, 4), (4, 2), (3, 3), (0, 1), (1, 0), (0, 0), (-1, 1), (1, -1), (-1, -2), (2, 1, 1), (2,), (), [2, 1], (2, True),
    (True, 1), (True, True), (2, None), ("2", "1"), 2, "2/1", ((2, 1),), (2, (1,)), (10 ** 60, 1), (1, 10 ** 60),
    {2: 1}, ABBA, HASTY, (2.0, 1), (1, False),
)


def ratio(cutter, text):
    return Fraction(cutter.price(text), cheapest_price(cutter.book, text))


def stands_of_signs(cutter):
    """The stands of texts of at least one sign."""
    stands = Stands(cutter)
    return sorted({next_stand(cutter, stand, sign)[0] for stand in stands for sign in cutter.book.alphabet})


def pair(fraction):
    return (fraction.numerator, fraction.denominator)


class Examples(unittest.TestCase):
    def test_the_document(self):
        self.assertEqual(
            [fraction_of(HASTY), fraction_paper(HASTY)[0], fraction_of(LONGEST_EIGHT),
             is_within_fraction(HASTY, (3, 2))],
            [(2, 1), "approached", (5, 1), False],
        )
        self.assertEqual(fraction_paper(LONGEST_NINE)[:3], ("reached", (11, 4), "aaaa"))

    def test_all_four_books(self):
        self.assertEqual([fraction_of(cutter) for cutter in LONGEST], [(2, 1), (5, 1), (5, 1), (11, 4)])
        self.assertEqual([fraction_of(cutter) for cutter in SHORTEST], [(3, 1), (18, 1), (18, 1), (27, 2)])


class Papers(unittest.TestCase):
    def check_reached(self, cutter, fraction, text, numbers):
        self.assertTrue(text)
        self.assertEqual(pair(ratio(cutter, text)), fraction)

    def check_approached(self, cutter, fraction, u, v, numbers):
        self.assertTrue(v)
        self.assertEqual(stand_of(cutter, u), stand_of(cutter, u + v))
        (told, least), (later, further) = spent(cutter, u), spent(cutter, u + v)
        self.assertEqual(pair(Fraction(later - told, further - least)), fraction)
        gaps = [Fraction(*fraction) - ratio(cutter, u + v * many) for many in (1, 10, 100, 1000)]
        self.assertTrue(gaps[0] > gaps[1] > gaps[2] > gaps[3] > 0)

    def test_just_one_kind_exists(self):
        kinds = []
        for cutter in EVERY + [NEVER_REACHED]:
            paper = fraction_paper(cutter)
            kinds.append(paper[0])
            self.assertIs(is_fraction_paper(cutter, paper), True)
            self.assertEqual(fraction_paper(cutter), paper)
            (self.check_reached if paper[0] == "reached" else self.check_approached)(cutter, *paper[1:])
            self.assertEqual(list(paper[-1]), stands_of_signs(cutter))
            self.assertEqual(fraction_of(cutter), paper[1])
        self.assertGreater(min(kinds.count("reached"), kinds.count("approached")), 8)

    def test_beside_the_ratios_of_short_texts(self):
        for cutter in EVERY + [NEVER_REACHED]:
            p, q = fraction_of(cutter)
            ratios = [ratio(cutter, text) for text in all_texts(cutter.book.alphabet, 7) if text]
            self.assertEqual([gcd(p, q), p >= q >= 1], [1, True])
            self.assertGreaterEqual(Fraction(p, q), max(ratios))
            if fraction_paper(cutter)[0] == "approached":
                self.assertGreater(Fraction(p, q), max(ratios))

    def test_not_that_of_a_ring(self):
        # NINE never falls behind without bound, and its fraction is that of one short text.
        self.assertEqual(ratio(LONGEST_NINE, "aaaa"), Fraction(11, 4))
        self.assertTrue(all(ratio(LONGEST_NINE, "a" * many) < Fraction(11, 4) for many in range(5, 60)))

    def test_one_for_cutters_that_are_never_behind(self):
        for cutter in (SEEING, Cutter.longest_first(Book({"a": 5, "b": 2})), Cutter.longest_first(Book({"a": 7}))):
            self.assertEqual(fraction_of(cutter), (1, 1))
            self.assertEqual(fraction_paper(cutter)[0], "reached")
            self.assertIs(is_within_fraction(cutter, (1, 1)), True)

    def test_what_was_told_changed_afterwards(self):
        paper = fraction_paper(HASTY)
        paper[4].clear()
        self.assertIs(is_fraction_paper(HASTY, fraction_paper(HASTY)), True)


class OwnReached(unittest.TestCase):
    """Reached papers made by the test itself."""

    def accepted(self, cutter, *rest):
        return is_fraction_paper(cutter, ("reached", *rest))

    def test_each_integer_one_too_great_or_too_small(self):
        for cutter in REACHED:
            _, (p, q), text, least = fraction_paper(cutter)
            most = greatest_numbers(cutter, list(least), p, q, 0)
            self.assertIs(self.accepted(cutter, (p, q), text, most), True)
            for stand in least:
                self.assertIs(self.accepted(cutter, (p, q), text, {**most, stand: most[stand] + 1}), False)
                if stand_of(cutter, Stands(cutter)[stand]) == stand and least[stand] == most[stand]:
                    self.assertIs(self.accepted(cutter, (p, q), text, {**least, stand: least[stand] - 1}), False)

    def test_greater_integers_than_needed(self):
        differing = 0
        for cutter in EVERY:
            paper = fraction_paper(cutter)
            if paper[0] == "reached":
                most = greatest_numbers(cutter, list(paper[3]), *paper[1], 0)
                self.assertIs(self.accepted(cutter, paper[1], paper[2], most), True)
                differing += most != paper[3]
        self.assertGreater(differing, 5)

    def test_the_step_from_the_empty_text(self):
        # By these integers all steps between the stands hold, but not the first one.
        for cutter in (LONGEST_NINE, SEEING, HASTY.with_view(1)):
            _, fraction, text, numbers = fraction_paper(cutter)
            lower = {stand: worth - 1 for stand, worth in numbers.items()}
            self.assertIs(self.accepted(cutter, fraction, text, lower), False)

    def test_keys_in_any_order(self):
        for cutter in REACHED:
            _, fraction, text, numbers = fraction_paper(cutter)
            turned = {stand: numbers[stand] for stand in reversed(list(numbers))}
            self.assertIs(self.accepted(cutter, fraction, text, turned), True)

    def test_other_texts(self):
        _, fraction, _, numbers = fraction_paper(SEEING)
        for text in ("a", "b", "abba", "ab" * 4000):
            self.assertIs(self.accepted(SEEING, fraction, text, numbers), True)
        for text in ("", None, "c", "ab" * 4001, ("a",), ["a"], 1, {}, ABBA):
            self.assertIs(self.accepted(SEEING, fraction, text, numbers), False)
        _, fraction, _, numbers = fraction_paper(LONGEST_NINE)
        for text in ("a", "aaa", "aaaaaaa"):
            self.assertIs(self.accepted(LONGEST_NINE, fraction, text, numbers), False)

    def test_other_fractions(self):
        for cutter in REACHED:
            _, fraction, text, numbers = fraction_paper(cutter)
            p, q = fraction
            near = ((p + 1, q), (p, q + 1), (p * 2, q * 2), [p, q], (p, q, 1), (q + p, p), (p * 100 + 1, q * 100))
            for other in near + NO_FRACTIONS:
                if other != fraction or isinstance(other[0], bool):
                    self.assertIs(self.accepted(cutter, other, text, numbers), False)
        # True equals 1, but it is no integer.
        _, fraction, text, numbers = fraction_paper(SEEING)
        self.assertEqual(fraction, (1, 1))
        for other in ((True, 1), (1, True), (True, True)):
            self.assertIs(self.accepted(SEEING, other, text, numbers), False)

    def test_a_greater_fraction_that_a_text_does_not_reach(self):
        for cutter in REACHED:
            p, q = fraction_of(cutter)
            most = greatest_numbers(cutter, stands_of_signs(cutter), p + 1, q, 0)
            for text in ("a", fraction_paper(cutter)[2]):
                self.assertIs(self.accepted(cutter, (p + 1, q), text, most), False)

    def test_a_fraction_that_is_too_small(self):
        for text in ("a", "aa", "aaa"):
            worth = {stand: -999 for stand in stands_of_signs(LONGEST_NINE)}
            self.assertIs(self.accepted(LONGEST_NINE, (1, 1), text, worth), False)
            self.assertIs(self.accepted(LONGEST_NINE, (1, 1), text, dict.fromkeys(worth, 0)), False)

    def test_keys(self):
        for cutter in REACHED:
            _, fraction, text, numbers = fraction_paper(cutter)
            for stand in numbers:
                fewer = {other: numbers[other] for other in numbers if other != stand}
                self.assertIs(self.accepted(cutter, fraction, text, fewer), False)
                for strange in (None, 1, "a", (("a", (50,)), ""), (stand,), stand[0], Stands(cutter).first):
                    if strange not in numbers:
                        self.assertIs(self.accepted(cutter, fraction, text, {**numbers, strange: -99}), False)
                        self.assertIs(self.accepted(cutter, fraction, text, {**fewer, strange: -99}), False)

    def test_the_first_stand_counts_if_a_further_text_has_it(self):
        cutter = Cutter.longest_first(Book({"a": 5, "b": 2}))
        self.assertEqual(fraction_paper(cutter)[3], {(("", ()), ""): 0})
        self.assertIs(self.accepted(cutter, (1, 1), "ab", {(("", ()), ""): 0}), True)
        for numbers in ({}, {(("", ()), ""): 1}, {(("", ()), ""): -1}, {(("", ()), ""): False}):
            self.assertIs(self.accepted(cutter, (1, 1), "ab", numbers), False)

    def test_integers(self):
        for cutter in REACHED:
            _, fraction, text, numbers = fraction_paper(cutter)
            for stand, worth in list(numbers.items())[::2]:
                for strange in (None, str(worth), (worth,), [worth], float(worth), ABBA, 10 ** 60, -(10 ** 60)):
                    self.assertIs(self.accepted(cutter, fraction, text, {**numbers, stand: strange}), False)
                if worth in (0, 1):
                    self.assertIs(self.accepted(cutter, fraction, text, {**numbers, stand: bool(worth)}), False)

    def test_lists_and_lengths(self):
        for cutter in REACHED:
            paper = fraction_paper(cutter)
            _, fraction, text, numbers = paper
            wrong = (
                list(paper), paper[:3], paper + (0,), ("Reached",) + paper[1:], ("approached",) + paper[1:],
                ("approached", fraction, text, text, numbers), ("reached", fraction, text, text, numbers),
                ("reached", fraction, text, list(numbers.items())), ("reached", fraction, text, None),
                ("reached", text, fraction, numbers), (None,) + paper[1:], (), ("reached",), "reached",
            )
            for value in wrong:
                self.assertIs(is_fraction_paper(cutter, value), False)


class OwnApproached(unittest.TestCase):
    """Approached papers made by the test itself."""

    def accepted(self, cutter, *rest):
        return is_fraction_paper(cutter, ("approached", *rest))

    def test_other_rings(self):
        for cutter in (HASTY, NEVER_REACHED):
            _, fraction, u, v, numbers = fraction_paper(cutter)
            for many in (1, 2, 5):
                self.assertIs(self.accepted(cutter, fraction, u, v * many, numbers), True)
                self.assertIs(self.accepted(cutter, fraction, u + v * many, v, numbers), True)
            for other in ("", "a", "b", v + "a", "c", None, ["bba"], ("bba",), 1, "A", v * 4000, ABBA):
                self.assertIs(self.accepted(cutter, fraction, u, other, numbers), False)
            for other in ("c", None, ["abb"], ("abb",), 1, "A", "a" * 8001, ABBA):
                self.assertIs(self.accepted(cutter, fraction, other, v, numbers), False)

    def test_a_ring_of_another_fraction(self):
        _, fraction, u, v, numbers = fraction_paper(HASTY)
        self.assertEqual(stand_of(HASTY, "bbabba"), stand_of(HASTY, "bbabbabba"))
        self.assertIs(self.accepted(HASTY, fraction, "bbabba", "bba", numbers), False)
        self.assertIs(self.accepted(HASTY, fraction, "a", "bba", numbers), False)
        self.assertIs(self.accepted(HASTY, (1, 1), "bbabba", "bba", numbers), False)

    def test_long_ones(self):
        _, fraction, u, v, numbers = fraction_paper(HASTY)
        self.assertEqual([u, v], ["abbabba", "bba"])
        self.assertIs(self.accepted(HASTY, fraction, u + "bba" * 2664, "bba" * 2666, numbers), True)
        self.assertIs(self.accepted(HASTY, fraction, u + "bba" * 2665, "bba", numbers), False)

    def test_integers_at_their_edges(self):
        for cutter in (HASTY, NEVER_REACHED):
            _, (p, q), u, v, least = fraction_paper(cutter)
            most = greatest_numbers(cutter, list(least), p, q, -1)
            self.assertIs(self.accepted(cutter, (p, q), u, v, most), True)
            for stand in least:
                self.assertIs(self.accepted(cutter, (p, q), u, v, {**most, stand: most[stand] + 1}), False)
                fewer = {other: least[other] for other in least if other != stand}
                self.assertIs(self.accepted(cutter, (p, q), u, v, fewer), False)
                self.assertIs(self.accepted(cutter, (p, q), u, v, {**least, stand: None}), False)
                self.assertIs(self.accepted(cutter, (p, q), u, v, {**least, stand: True}), False)
                self.assertIs(self.accepted(cutter, (p, q), u, v, {**least, stand: -(10 ** 60)}), False)
            lowest = min(least, key=lambda stand: (least[stand], stand))
            self.assertIs(self.accepted(cutter, (p, q), u, v, {**least, lowest: least[lowest] - 1}), False)
            self.assertIs(self.accepted(cutter, (p, q), u, v, {**least, Stands(cutter).first: -9}), False)

    def test_0_at_an_end_is_too_much(self):
        for cutter in (HASTY, NEVER_REACHED):
            _, (p, q), u, v, numbers = fraction_paper(cutter)
            most = greatest_numbers(cutter, list(numbers), p, q, 0)
            self.assertEqual(max(most[stand] + q * end_price(cutter, stand) for stand in most), 0)
            self.assertIs(self.accepted(cutter, (p, q), u, v, most), False)
            self.assertIs(is_fraction_paper(cutter, ("reached", (p, q), u, most)), False)

    def test_where_a_text_reaches_it(self):
        # Along a ring of a cutter whose fraction a text reaches, the integers cannot all be low enough.
        cutter = SHORTEST[0]
        kind, (p, q), text, numbers = fraction_paper(cutter)
        self.assertEqual([kind, text, stand_of(cutter, "bba")], ["reached", "bba", stand_of(cutter, "bbabba")])
        for most in (numbers, greatest_numbers(cutter, list(numbers), p, q, -1)):
            self.assertIs(self.accepted(cutter, (p, q), "bba", "bba", most), False)

    def test_fractions(self):
        _, fraction, u, v, numbers = fraction_paper(HASTY)
        for other in NO_FRACTIONS + ((4, 2), (3, 1), (2, 3), (2, True)):
            self.assertIs(self.accepted(HASTY, other, u, v, numbers), False)

    def test_lists_and_lengths(self):
        paper = fraction_paper(HASTY)
        _, fraction, u, v, numbers = paper
        wrong = (
            list(paper), paper[:4], paper + (0,), ("reached",) + paper[1:], ("reached", fraction, u, numbers),
            (None,) + paper[1:], ("approached", fraction, u, numbers), ("approached", fraction, v, u, numbers),
            ("approached",), ("approached", fraction, u, v, tuple(numbers)), ("approached", fraction, u, v, None),
            ("approached", fraction, (u, v), numbers),
        )
        for value in wrong:
            self.assertIs(is_fraction_paper(HASTY, value), False)

    def test_every_other_value(self):
        for cutter in (HASTY, LONGEST_NINE, SEEING):
            for value in STRANGE + (1, "", (), ABBA, HASTY, (1, 1), Stands(HASTY)):
                self.assertIs(is_fraction_paper(cutter, value), False)


class Within(unittest.TestCase):
    def test_at_the_least_fraction_and_beside_it(self):
        for cutter in EVERY[::4] + LONGEST + SHORTEST + [NEVER_REACHED]:
            least = Fraction(*fraction_of(cutter))
            self.assertIs(is_within_fraction(cutter, pair(least)), True)
            for many in (3, 1000, 10 ** 40):
                self.assertIs(is_within_fraction(cutter, pair(least + Fraction(1, many))), True)
                self.assertIs(is_within_fraction(cutter, pair(least - Fraction(1, many))), False)

    def test_other_fractions(self):
        values = ((1, 1), (1, 2), (5, 2), (11, 4), (3, 1), (99, 1))
        answers = [is_within_fraction(LONGEST_NINE, value) for value in values]
        self.assertEqual(answers, [False, False, False, True, True, True])
        most = 10 ** 60 - 1
        answers = [is_within_fraction(HASTY, value) for value in ((most, 1), (1, most), (most, most - 1))]
        self.assertEqual(answers, [True, False, False])

    def test_pairs_that_are_no_fractions(self):
        for value in NO_FRACTIONS:
            with self.assertRaises(InvalidOperation):
                is_within_fraction(HASTY, value)


class Refused(unittest.TestCase):
    def test_cutters(self):
        for value in NO_CUTTERS:
            for function in (fraction_of, fraction_paper):
                with self.assertRaises(InvalidCutter):
                    function(value)
            for other in (None, (2, 1), ("reached", (1, 1), "a", {})):
                with self.assertRaises(InvalidCutter):
                    is_fraction_paper(value, other)
                with self.assertRaises(InvalidCutter):
                    is_within_fraction(value, other)

    def test_more_than_2000_stands(self):
        cutter = HASTY.with_view(12)
        for function in (fraction_of, fraction_paper):
            with self.assertRaises(TooMany) as caught:
                function(cutter)
            self.assertEqual(caught.exception.limit, 2000)
        for value in (None, (), ("reached", (1, 1), "a", {}), ("approached", (2, 1), "a", "bba", {})):
            with self.assertRaises(TooMany):
                is_fraction_paper(cutter, value)
        with self.assertRaises(TooMany):
            is_within_fraction(cutter, (2, 1))
        with self.assertRaises(InvalidOperation):
            is_within_fraction(cutter, (4, 2))
