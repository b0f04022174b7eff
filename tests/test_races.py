"""Races of two cutters, beside a plain reading sign by sign and the prices of both cuts: stage 12."""

import unittest
from fractions import Fraction
from math import gcd

from cutbehind.base.books import Book
from cutbehind.bounds.excess import greatest_excess
from cutbehind.bounds.fractions import fraction_of
from cutbehind.cuts.cutters import Cutter
from cutbehind.errors import InvalidCutter, InvalidOperation, InvalidStand, InvalidText, TooMany
from cutbehind.pairs import races as module
from cutbehind.pairs.races import Race
from cutbehind.view.least import cutter_by, view_paper
from tests.samples import ABBA, EARLY, HASTY, LONGEST_EIGHT, LONGEST_NINE, NINE, NO_CUTTERS, NO_TEXTS, ODD, SEEING
from tests.samples import STRANGE, all_texts, small_cutters

SHORT = Cutter.shortest_first(ABBA)
RACE = Race(HASTY, SHORT)
# The same alphabet, but other pieces and prices.
OTHER = Cutter.longest_first(Book({"a": 4, "b": 2, "ba": 3}))
ONE = Book({"a": 1, "aa": 1})
NO_PAIRS = (
    ("bb", "bbb"), ("a", "b"), ("c", "c"), ("", ""), ("", "", ""), ("",), ["", ""], ("", None), (None, ""), ("", ("",)),
    (("", ""),), {"": ""}, "", ("a", ABBA), (ABBA, HASTY), (["a"], "a"), ("a", {}), (1, 2), ("", True),
)


def races():
    """Many races, among them of cutters with themselves and of books with other pieces and prices."""
    cutters = [cutter for cutter in small_cutters() if cutter.book.alphabet == ("a", "b")]
    found = [Race(one, other) for one, other in zip(cutters, cutters[7:] + cutters[:7])][::2]
    found += [Race(cutter, cutter) for cutter in cutters[:3]]
    found += [RACE, RACE.turned(), Race(HASTY, SEEING), Race(SEEING, HASTY), Race(HASTY, OTHER), Race(OTHER, HASTY)]
    found += [Race(LONGEST_NINE, EARLY), Race(EARLY, LONGEST_NINE)]
    found += [Race(LONGEST_EIGHT, Cutter.shortest_first(LONGEST_EIGHT.book))]
    return found


EVERY = races()
# Those with exactly this kind of paper.
BOUND = [race for race in EVERY if race.paper()[0] == "bound"]
RINGS = [race for race in EVERY if race.paper()[0] == "ring"]
REACHED = [race for race in EVERY if race.rate_paper()[0] == "reached"]
APPROACHED = [race for race in EVERY if race.rate_paper()[0] == "approached"]


def plain_read(cutter, text):
    """What waits, and the price of what was told, when the cutter has read a text that may go on."""
    price = 0
    while len(text) >= cutter.view:
        piece = cutter.tell(text[:cutter.view])
        price += cutter.book[piece]
        text = text[len(piece):]
    return text, price


def plain_pairs(race, most):
    """For each pair of a text of at most so many signs the number of signs of its shortest texts."""
    found = {}
    for text in all_texts(race.one.book.alphabet, most):
        pair = (plain_read(race.one, text)[0], plain_read(race.other, text)[0])
        found.setdefault(pair, len(text))
    return found


def ratio(race, text):
    return Fraction(race.one.price(text), race.other.price(text))


def steps_of(race):
    """For each pair, for each sign, the next pair and what both cutters tell at it."""
    found = {}
    for pair in race.pairs:
        rows = []
        for sign in race.one.book.alphabet:
            one, other = plain_read(race.one, pair[0] + sign), plain_read(race.other, pair[1] + sign)
            rows.append(((one[0], other[0]), one[1], other[1]))
        found[pair] = rows
    return found


def ends_of(race):
    return {pair: (race.one.price(pair[0]), race.other.price(pair[1])) for pair in race.pairs}


def pairs_of_signs(race):
    """The pairs of the texts of at least one sign."""
    return sorted({further for rows in steps_of(race).values() for further, _, _ in rows})


def greatest_numbers(race, pairs, x, y, most):
    """The greatest integers that a paper can have, by what can still follow each pair."""
    steps, ends = steps_of(race), ends_of(race)
    ahead = {pair: x * ends[pair][0] - y * ends[pair][1] for pair in pairs}
    changed = True
    while changed:
        changed = False
        for pair in pairs:
            found = max(x * one - y * other + ahead[further] for further, one, other in steps[pair])
            if found > ahead[pair]:
                ahead[pair] = found
                changed = True
    return {pair: most - ahead[pair] for pair in pairs}


class Examples(unittest.TestCase):
    def test_the_document(self):
        race = Race(HASTY, Cutter.shortest_first(ABBA))
        self.assertEqual(
            [race.greatest(), race.fraction(), race.first_lead(), race.turned().greatest(), race.turned().fraction(),
             race.turned().lead("bbaab")],
            [0, (1, 1), None, None, (3, 1), 3],
        )
        self.assertEqual(
            [race.turned().is_paper(("ring", "bba", "bba")),
             race.turned().is_rate_paper(("reached", (3, 1), "bba", {})), race.turned().rate_paper()[:2]],
            [True, False, ("reached", (3, 1))],
        )

    def test_all_four_books(self):
        cutters = (HASTY, Cutter.longest_first(ODD), LONGEST_EIGHT, LONGEST_NINE)
        found = [Race(cutter, Cutter.shortest_first(cutter.book)) for cutter in cutters]
        self.assertEqual([race.greatest() for race in found], [0, 0, 0, 0])
        self.assertEqual([race.turned().greatest() for race in found], [None] * 4)
        self.assertEqual([race.turned().fraction() for race in found], [(3, 1), (18, 1), (18, 1), (27, 2)])

    def test_the_constant(self):
        self.assertEqual(module.MAX_PAIRS, 2000)


class Leads(unittest.TestCase):
    def test_beside_the_prices(self):
        for race in EVERY:
            signs = race.one.book.alphabet
            for text in all_texts(signs, 5)[::3] + ["".join(signs) * 4000, signs[-1] * 8000]:
                if len(text) <= 8000:
                    expected = race.one.price(text) - race.other.price(text)
                    self.assertEqual([race.lead(text), race.turned().lead(text)], [expected, -expected])

    def test_the_greatest_and_the_fraction(self):
        for race in EVERY:
            texts = all_texts(race.one.book.alphabet, 7)
            most, greatest = max(race.lead(text) for text in texts), race.greatest()
            self.assertTrue(greatest is None or greatest >= most >= 0)
            p, q = race.fraction()
            self.assertEqual(gcd(p, q), 1)
            self.assertGreaterEqual(Fraction(p, q), max(ratio(race, text) for text in texts if text))

    def test_how_they_are_met(self):
        for race in BOUND:
            _, number, text, _ = race.paper()
            self.assertEqual([race.lead(text), race.greatest()], [number, number])
        for race in RINGS:
            _, u, v = race.paper()
            leads = [race.lead(u + v * many) for many in range(4)]
            self.assertEqual([later - earlier for earlier, later in zip(leads, leads[1:])], [leads[1] - leads[0]] * 3)
            self.assertGreater(leads[1], leads[0])
            self.assertIsNone(race.greatest())
        for race in REACHED:
            _, fraction, text, _ = race.rate_paper()
            self.assertEqual([ratio(race, text), race.fraction()], [Fraction(*fraction), fraction])
        for race in APPROACHED:
            _, fraction, u, v, _ = race.rate_paper()
            gaps = [Fraction(*fraction) - ratio(race, u + v * many) for many in (1, 10, 100, 1000)]
            self.assertTrue(gaps[0] > gaps[1] > gaps[2] > gaps[3] > 0)

    def test_the_first_lead(self):
        found = []
        for race in EVERY:
            text = race.first_lead()
            expected = [short for short in all_texts(race.one.book.alphabet, 7) if race.lead(short) > 0]
            if text is None:
                self.assertEqual([expected, race.greatest()], [[], 0])
            else:
                self.assertGreater(race.lead(text), 0)
                self.assertEqual(len(text), len(expected[0]) if expected else max(8, len(text)))
                self.assertNotEqual(race.greatest(), 0)
            found.append(None if text is None else len(text))
        self.assertGreater(len(set(found)), 4)

    def test_a_first_lead_that_comes_late(self):
        # At the end of each text the other one pays 99 more, and with each two signs 1 less.
        one = Cutter.longest_first(Book({"a": 1, "aa": 2}))
        other = Cutter(Book({"a": 99, "aa": 1}), ("aa", "a"), view=3, ends={"a": "a", "aa": "a"})
        race = Race(one, other)
        self.assertEqual([race.first_lead(), race.greatest()], ["a" * 199, None])
        self.assertEqual([race.lead("a" * many) for many in (0, 1, 2, 197, 198, 199)], [0, -98, -196, 0, -98, 1])
        self.assertEqual([race.turned().first_lead(), race.turned().greatest()], ["a", 196])

    def test_texts_are_refused(self):
        for value in NO_TEXTS:
            with self.assertRaises(InvalidText):
                RACE.lead(value)


class Pairs(unittest.TestCase):
    def test_beside_a_plain_walk(self):
        for race in EVERY:
            most = 8 if len(race.one.book.alphabet) == 2 else 12
            expected = {pair: many for pair, many in plain_pairs(race, most).items()}
            self.assertEqual(race.pairs, tuple(sorted(expected)))
            for pair, many in expected.items():
                text = race[pair]
                self.assertEqual((plain_read(race.one, text)[0], plain_read(race.other, text)[0]), pair)
                self.assertEqual(len(text), many)
                self.assertIs(pair in race, True)
            self.assertEqual(len(race), len(expected))

    def test_values_that_are_no_pairs(self):
        for value in STRANGE + NO_PAIRS:
            if value != ("", ""):
                self.assertIs(value in RACE, False)
                with self.assertRaises(InvalidStand):
                    RACE[value]
        self.assertEqual([("", "") in RACE, RACE[("", "")]], [True, ""])

    def test_other_methods(self):
        self.assertEqual([str(RACE), str(Race(SHORT, SHORT))], ["race of 12 pairs", "race of 7 pairs"])
        self.assertEqual([RACE.one, RACE.other, RACE.turned().one, RACE.turned().other], [HASTY, SHORT, SHORT, HASTY])
        self.assertEqual(RACE.turned().turned(), RACE)
        self.assertEqual(RACE.turned().pairs, tuple(sorted((right, left) for left, right in RACE.pairs)))
        with self.assertRaises(TypeError):
            iter(RACE)
        for name in ("one", "other", "pairs"):
            with self.assertRaises(AttributeError):
                setattr(RACE, name, None)

    def test_equal_races(self):
        self.assertIs(RACE == Race(Cutter.longest_first(Book(ABBA.prices)), SHORT), True)
        self.assertIs(RACE != Race(HASTY, SHORT), False)
        for value in STRANGE + (RACE.turned(), Race(HASTY, HASTY), Race(HASTY.with_view(4), SHORT), HASTY, RACE.pairs):
            self.assertIs(RACE == value, False)
            self.assertIs(RACE != value, True)

    def test_a_cutter_beside_itself(self):
        for cutter in (HASTY, SEEING, LONGEST_NINE, EARLY):
            race = Race(cutter, cutter)
            self.assertEqual([race.greatest(), race.fraction(), race.first_lead()], [0, (1, 1), None])
            self.assertTrue(all(one == other for one, other in race.pairs))
            self.assertEqual([race.paper()[0], race.rate_paper()[0]], ["bound", "reached"])

    def test_beside_a_cutter_that_is_never_behind(self):
        for cutter in (HASTY, HASTY.with_view(1), SHORT, SEEING):
            race = Race(cutter, cutter_by(ABBA, view_paper(ABBA)))
            self.assertEqual(race.greatest(), greatest_excess(cutter))
            self.assertEqual(race.fraction(), fraction_of(cutter))

    def test_exactly_2000_and_more(self):
        race = Race(Cutter(ONE, ("a", "aa"), view=2000), Cutter(ONE, ("a", "aa"), view=1999))
        self.assertEqual([len(race), len(set(race.pairs))], [2000, 2000])
        self.assertEqual([len(race[pair]) for pair in race.pairs], list(range(2000)))
        self.assertEqual(race.greatest(), 0)
        for one, other in ((HASTY.with_view(11), HASTY.with_view(3)), (HASTY.with_view(2000), HASTY),
                           (Cutter(ONE, ("a", "aa"), view=2000), Cutter(ONE, ("aa", "a"), view=1999))):
            for left, right in ((one, other), (other, one)):
                with self.assertRaises(TooMany) as caught:
                    Race(left, right)
                self.assertEqual(caught.exception.limit, 2000)


class LeadPapers(unittest.TestCase):
    def test_just_one_kind_exists(self):
        self.assertGreater(min(len(BOUND), len(RINGS)), 5)
        for race in EVERY:
            paper = race.paper()
            self.assertIs(race.is_paper(paper), True)
            self.assertEqual(race.paper(), paper)
            if paper[0] == "bound":
                self.assertEqual(list(paper[3]), list(race.pairs))
                texts = all_texts(race.one.book.alphabet, 3)
                self.assertFalse(any(race.is_paper(("ring", u, v)) for u in texts[:5] for v in texts))
            else:
                for number in (0, 5, 10 ** 59):
                    for worth in (0, -number):
                        value = ("bound", number, "", dict.fromkeys(race.pairs, worth))
                        self.assertIs(race.is_paper(value), False)

    def test_greater_integers_than_needed(self):
        differing = 0
        for race in BOUND:
            kind, number, text, least = race.paper()
            most = greatest_numbers(race, race.pairs, 1, 1, number)
            self.assertIs(race.is_paper((kind, number, text, most)), True)
            turned = dict(reversed(most.items()))
            self.assertIs(race.is_paper((kind, number, text, turned)), True)
            differing += most != least
            for pair in race.pairs:
                self.assertIs(race.is_paper((kind, number, text, {**most, pair: most[pair] + 1})), False)
                self.assertIs(race.is_paper((kind, number, text, {**least, pair: least[pair] - 1})), False)
        self.assertGreater(differing, 5)

    def test_one_place_wrong(self):
        for race in BOUND:
            kind, number, text, numbers = race.paper()
            for pair in race.pairs:
                fewer = {other: numbers[other] for other in numbers if other != pair}
                for keys in (fewer, {**fewer, None: 0}, {**fewer, ("zz", ""): -99}, {**numbers, ("zz", ""): -99}):
                    self.assertIs(race.is_paper((kind, number, text, keys)), False)
                worth = numbers[pair]
                for strange in (None, 10 ** 60, -(10 ** 60), str(worth), (worth,), float(worth), ABBA):
                    self.assertIs(race.is_paper((kind, number, text, {**numbers, pair: strange})), False)
                if numbers[pair] in (0, 1):
                    self.assertIs(race.is_paper((kind, number, text, {**numbers, pair: bool(numbers[pair])})), False)
            for other in (number + 1, number - 1, None, str(number), (number,), bool(number), ABBA, 10 ** 60):
                self.assertIs(race.is_paper((kind, other, text, numbers)), False)
            for other in (None, "c" * 3, ("a",), ["a"], 1, ABBA, "a" * 8001, "A"):
                self.assertIs(race.is_paper((kind, number, other, numbers)), False)

    def test_the_text_has_the_lead(self):
        for race in BOUND:
            kind, number, _, numbers = race.paper()
            for text in all_texts(race.one.book.alphabet, 4) + [race.one.book.alphabet[0] * 8000]:
                self.assertIs(race.is_paper((kind, number, text, numbers)), race.lead(text) == number)

    def test_rings_beside_what_is_told(self):
        for race in [RACE.turned()] + RINGS[:3]:
            texts, found = all_texts(race.one.book.alphabet, 4), 0
            for u in texts[::2]:
                for v in texts:
                    pairs = [(plain_read(race.one, text)[0], plain_read(race.other, text)[0]) for text in (u, u + v)]
                    expected = pairs[0] == pairs[1] and race.lead(u + v) > race.lead(u)
                    self.assertIs(race.is_paper(("ring", u, v)), expected)
                    found += expected
            self.assertGreater(found, 0)

    def test_other_rings(self):
        for race in RINGS:
            _, u, v = race.paper()
            for many in (1, 2, 7):
                self.assertIs(race.is_paper(("ring", u, v * many)), True)
                self.assertIs(race.is_paper(("ring", u + v * many, v)), True)
            self.assertIs(race.is_paper(("ring", u, "")), False)
            for value in STRANGE + (None, 1, [v], (v,), "c" + v, v + "c", ABBA, v * 8001):
                self.assertIs(race.is_paper(("ring", u, value)), False)
                self.assertIs(race.is_paper(("ring", value, v)), False)

    def test_long_texts(self):
        turned = RACE.turned()
        self.assertIs(turned.is_paper(("ring", "bba" * 2666, "bba" * 2666)), True)
        self.assertIs(turned.is_paper(("ring", "bba" * 2667, "bba")), False)
        self.assertIs(turned.is_paper(("ring", "bba", "bba" * 2667)), False)
        _, number, _, numbers = RACE.paper()
        self.assertIs(RACE.is_paper(("bound", number, "a" * 8000, numbers)), True)
        self.assertIs(RACE.is_paper(("bound", number, "a" * 8001, numbers)), False)

    def test_lists_and_lengths(self):
        for race in (BOUND[0], RINGS[0]):
            paper = race.paper()
            wrong = (list(paper), paper[:-1], paper + (0,), (paper[0].title(),) + paper[1:], (None,) + paper[1:],
                     ("reached",) + paper[1:], paper[1:], (paper,), (), paper[0], {paper[0]: 0})
            for value in wrong + STRANGE + (1, "", ABBA, race, race.rate_paper()):
                self.assertIs(race.is_paper(value), False)

    def test_what_was_told_changed_afterwards(self):
        race = BOUND[0]
        race.paper()[3].clear()
        race.rate_paper()[-1].clear()
        self.assertIs(race.is_paper(race.paper()), True)
        self.assertIs(race.is_rate_paper(race.rate_paper()), True)


class RatePapers(unittest.TestCase):
    def test_just_one_kind_exists(self):
        self.assertGreater(min(len(REACHED), len(APPROACHED)), 3)
        for race in EVERY:
            paper = race.rate_paper()
            self.assertIs(race.is_rate_paper(paper), True)
            self.assertEqual(race.rate_paper(), paper)
            self.assertEqual(list(paper[-1]), pairs_of_signs(race))
            self.assertEqual(paper[1], race.fraction())

    def test_greater_integers_than_needed(self):
        for race in EVERY:
            paper = race.rate_paper()
            (p, q), least, top = paper[1], paper[-1], 0 if paper[0] == "reached" else -1
            most = greatest_numbers(race, list(least), q, p, top)
            self.assertIs(race.is_rate_paper(paper[:-1] + (most,)), True)
            for pair in least:
                self.assertIs(race.is_rate_paper(paper[:-1] + ({**most, pair: most[pair] + 1},)), False)
            lower = {pair: worth - 1 for pair, worth in least.items()}
            self.assertIs(race.is_rate_paper(paper[:-1] + (lower,)), False)
            if paper[0] == "approached":
                zero = greatest_numbers(race, list(least), q, p, 0)
                self.assertIs(race.is_rate_paper(paper[:-1] + (zero,)), False)
                self.assertIs(race.is_rate_paper(("reached", (p, q), paper[2], zero)), False)

    def test_one_place_wrong(self):
        for race in REACHED[:6] + APPROACHED[:6]:
            paper = race.rate_paper()
            start, numbers = paper[:-1], paper[-1]
            for pair in numbers:
                fewer = {other: numbers[other] for other in numbers if other != pair}
                for keys in (fewer, {**fewer, None: -99}, {**numbers, ("zz", ""): -99}):
                    self.assertIs(race.is_rate_paper(start + (keys,)), False)
                for strange in (None, -(10 ** 60), (numbers[pair],), True, ABBA):
                    self.assertIs(race.is_rate_paper(start + ({**numbers, pair: strange},)), False)
            if ("", "") not in numbers:
                self.assertIs(race.is_rate_paper(start + ({**numbers, ("", ""): -99},)), False)

    def test_fractions(self):
        for race in REACHED[:6] + APPROACHED[:6]:
            kind, (p, q), *rest = race.rate_paper()
            for other in ((p + 1, q), (p, q + 1), (2 * p, 2 * q), [p, q], (p, q, 1), (p,), (-p, -q), (0, 1), p, None,
                          (True, True), (p, None), (10 ** 60, 1), f"{p}/{q}", (p * 100 + 1, q * 100)):
                self.assertIs(race.is_rate_paper((kind, other, *rest)), False)
        race = Race(HASTY, HASTY)
        kind, fraction, text, numbers = race.rate_paper()
        self.assertEqual(fraction, (1, 1))
        for other in ((True, 1), (1, True)):
            self.assertIs(race.is_rate_paper((kind, other, text, numbers)), False)

    def test_texts(self):
        for race in REACHED:
            kind, fraction, _, numbers = race.rate_paper()
            for text in all_texts(race.one.book.alphabet, 4) + [race.one.book.alphabet[0] * 8000]:
                expected = text != "" and ratio(race, text) == Fraction(*fraction)
                self.assertIs(race.is_rate_paper((kind, fraction, text, numbers)), expected)
            for text in ("c", None, ("a",), ["a"], 1, "a" * 8001, ABBA):
                self.assertIs(race.is_rate_paper((kind, fraction, text, numbers)), False)

    def test_rings(self):
        for race in APPROACHED:
            kind, fraction, u, v, numbers = race.rate_paper()
            for many in (1, 2, 7):
                self.assertIs(race.is_rate_paper((kind, fraction, u, v * many, numbers)), True)
                self.assertIs(race.is_rate_paper((kind, fraction, u + v * many, v, numbers)), True)
            for other in ("", None, "c", [v], (v,), 1, "a" * 8001, ABBA):
                self.assertIs(race.is_rate_paper((kind, fraction, u, other, numbers)), False)
                if other != "":
                    self.assertIs(race.is_rate_paper((kind, fraction, other, v, numbers)), False)

    def test_a_fraction_below_1(self):
        one, other = Cutter(Book({"a": 1, "b": 2}), ("a", "b")), Cutter(Book({"a": 3, "b": 5}), ("a", "b"))
        race = Race(one, other)
        self.assertEqual([race.fraction(), race.greatest(), race.first_lead()], [(2, 5), 0, None])
        self.assertEqual(race.rate_paper(), ("reached", (2, 5), "b", {("", ""): 0}))
        self.assertEqual([race.turned().fraction(), race.turned().greatest()], [(3, 1), None])
        self.assertIn(race.turned().first_lead(), ("a", "b"))

    def test_lists_and_lengths(self):
        for race in (REACHED[0], APPROACHED[0]):
            paper = race.rate_paper()
            wrong = (list(paper), paper[:-1], paper + (0,), (paper[0].title(),) + paper[1:], (None,) + paper[1:],
                     ("bound",) + paper[1:], paper[1:], (paper,), (), paper[0])
            for value in wrong + STRANGE + (1, "", ABBA, race, race.paper()):
                self.assertIs(race.is_rate_paper(value), False)


class Refused(unittest.TestCase):
    def test_cutters(self):
        for value in NO_CUTTERS:
            for one, other in ((value, HASTY), (HASTY, value), (value, value), (value, LONGEST_NINE)):
                with self.assertRaises(InvalidCutter):
                    Race(one, other)

    def test_alphabets(self):
        for one, other in ((HASTY, LONGEST_NINE), (LONGEST_NINE, HASTY), (HASTY.with_view(12), LONGEST_NINE)):
            with self.assertRaises(InvalidOperation):
                Race(one, other)
        self.assertEqual(len(Race(Cutter.longest_first(Book({"a": 2})), LONGEST_NINE)), 3)
        self.assertEqual(NINE.alphabet, ("a",))
