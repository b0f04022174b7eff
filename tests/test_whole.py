"""Over the whole program: the answers of the stages agree with one another, and what [0.18] says is not true."""

import unittest
from fractions import Fraction
from itertools import permutations

from cutbehind.base.books import Book
from cutbehind.bounds.excess import excess_paper, greatest_excess, is_never_behind, worst_text
from cutbehind.bounds.fractions import fraction_of, fraction_paper, is_within_fraction
from cutbehind.bounds.lengths import all_worst, is_worst, worst_by_length
from cutbehind.cuts.cuts import cheapest, cheapest_price, harmless, loss
from cutbehind.cuts.cutters import Cutter
from cutbehind.live.feeders import Feeder, SafeFeeder
from cutbehind.live.shelf import Guard, Shelf
from cutbehind.menus.menus import Menu
from cutbehind.pairs.edits import boundaries, meeting_paper, meets_within
from cutbehind.pairs.races import Race
from cutbehind.stands.stands import Stands, behind_along
from cutbehind.text.shell import Shell
from cutbehind.text.texts import read_cutter, write_cutter
from cutbehind.view.least import cutter_by, is_view_paper, least_view, minimal_windows, view_paper
from cutbehind.view.safe import is_safe, safe_pieces
from tests.samples import ABBA, EARLY, EIGHT, HASTY, LONGEST_EIGHT, LONGEST_NINE, NINE, ODD, SEEING, all_texts
from tests.samples import small_books, small_cutters

BOOKS = [ABBA, ODD, EIGHT, NINE] + [Book(prices) for prices in small_books()[::4]]
CUTTERS = small_cutters() + [HASTY, SEEING, EARLY, LONGEST_EIGHT, LONGEST_NINE]


def seeing_enough(book):
    """A cutter that is never behind, or None if no view is enough."""
    paper = view_paper(book)
    return cutter_by(book, paper) if paper[0] == "windows" else None


class Agreement(unittest.TestCase):
    def test_bounds_rings_and_rows(self):
        for cutter in CUTTERS:
            paper, greatest = excess_paper(cutter), greatest_excess(cutter)
            row = worst_by_length(cutter, 60)
            if paper[0] == "ring":
                self.assertEqual([greatest, worst_text(cutter)], [None, None])
                _, u, v = paper
                last = len(u) + (300 // len(v)) * len(v)
                self.assertGreater(max(worst_by_length(cutter, last)), row[len(u)] + 300 // len(v) - 5)
            else:
                self.assertEqual(max(worst_by_length(cutter, len(Stands(cutter)))), greatest)
                self.assertLessEqual(max(row), greatest)
                self.assertIs(is_worst(cutter, worst_text(cutter)), True)

    def test_excess_and_fraction(self):
        for cutter in CUTTERS:
            fraction = fraction_of(cutter)
            self.assertIs(is_never_behind(cutter), fraction == (1, 1))
            self.assertIs(is_within_fraction(cutter, (1, 1)), is_never_behind(cutter))
            if fraction_paper(cutter)[0] == "approached":
                self.assertEqual(excess_paper(cutter)[0], "ring")
            for many in range(1, 7):
                for text in list(all_worst(cutter, many))[:20]:
                    ratio = Fraction(cutter.price(text), cheapest_price(cutter.book, text))
                    self.assertLessEqual(ratio, Fraction(*fraction))

    def test_amounts_along_a_text(self):
        for cutter in CUTTERS:
            text = ("".join(cutter.book.pieces) * 4)[:30]
            along, row = behind_along(cutter, text), worst_by_length(cutter, len(text))
            self.assertTrue(all(amount <= most for amount, most in zip(along, row)))
            self.assertEqual(along[-1], sum(cutter.losses(text)))
            feeder = Feeder(cutter)
            for end, sign in enumerate(text, 1):
                feeder.feed(sign)
                self.assertEqual(feeder.during(lambda same: (same.end(), same.behind()))[1], along[end])

    def test_races_beside_a_cutter_that_is_never_behind(self):
        raced = 0
        for cutter in CUTTERS:
            best = seeing_enough(cutter.book)
            if best is not None and best.view < 6:
                race = Race(cutter, best)
                self.assertEqual([race.greatest(), race.fraction()], [greatest_excess(cutter), fraction_of(cutter)])
                self.assertEqual(race.turned().greatest(), 0)
                self.assertIs(race.first_lead() is None, is_never_behind(cutter))
                raced += 1
        self.assertGreater(raced, 20)

    def test_views(self):
        enough = 0
        for book in BOOKS:
            best = seeing_enough(book)
            cutters = [Cutter.longest_first(book), Cutter.shortest_first(book), Cutter(book, book.pieces)]
            if best is None:
                self.assertFalse(any(is_never_behind(cutter.with_view(view)) for cutter in cutters for view in (2, 5)))
                self.assertIs(is_view_paper(book, view_paper(book)), True)
            elif best.view < 9:
                self.assertIs(is_never_behind(best), True)
                fewer = [cutter.with_view(view) for cutter in cutters for view in range(1, best.view)]
                self.assertFalse(any(is_never_behind(cutter) for cutter in fewer))
                enough += 1
        self.assertGreater(enough, 15)

    def test_safe_feeders_and_windows(self):
        for book in BOOKS:
            windows = minimal_windows(book)
            for text in all_texts(book.alphabet, 4)[::3] + [("".join(book.pieces) * 3)[:25]]:
                feeder = SafeFeeder(book)
                feeder.feed(text)
                self.assertEqual(safe_pieces(book, feeder.waiting), ())
                if windows is not None:
                    self.assertFalse(any(feeder.waiting.startswith(window) for window in windows))
                feeder.end()
                self.assertEqual(feeder.spent, cheapest_price(book, text))

    def test_safe_pieces_are_harmless(self):
        for book in BOOKS:
            for text in all_texts(book.alphabet, 5)[1::5]:
                self.assertTrue(set(safe_pieces(book, text)) <= set(harmless(book, text)))
                self.assertIn(cheapest(book, text)[0], harmless(book, text))

    def test_guards_shelves_and_shells(self):
        for cutter in CUTTERS[::5]:
            greatest = greatest_excess(cutter)
            texts = {"a": "".join(cutter.book.pieces), "b": cutter.book.alphabet[0] * 9}
            shelf = Shelf(cutter, texts=texts)
            self.assertEqual(shelf.lag, sum(cutter.behind(text) for text in texts.values()))
            self.assertIs(Guard.is_needless(cutter, shelf.lag), greatest is not None and greatest <= shelf.lag)
            shell = Shell(write_cutter(cutter))
            self.assertEqual(shell.shelf().cutter, cutter)
            self.assertEqual(shell(f"behind {texts['a']}"), str(shelf.behind("a")))
            self.assertEqual(read_cutter(write_cutter(cutter)), cutter)

    def test_menus(self):
        for book in BOOKS[::6]:
            cutter = Cutter.longest_first(book)
            piece = book.alphabet[0] * 5
            menu = Menu(cutter, {piece: (9, 0)} if piece not in book else {})
            self.assertIs(menu.is_good(()), is_never_behind(cutter))
            for part in menu.parts():
                self.assertIs(menu.is_good(part), fraction_of(menu.cutter_with(part)) == (1, 1))

    def test_meetings(self):
        for cutter in CUTTERS[::3]:
            if cutter.view > 4 or len(cutter.book.alphabet) > 2:
                continue
            paper, number = meeting_paper(cutter), meets_within(cutter)
            if paper[0] == "within":
                _, _, old, new, rest = paper
                places = [{place - len(start) for place in boundaries(cutter, start + rest)} for start in (old, new)]
                self.assertEqual(min(place for place in places[0] & places[1] if place >= 0), number)
            else:
                self.assertIsNone(number)

    def test_answers_asked_again(self):
        for cutter in (HASTY, SEEING, LONGEST_NINE):
            fresh = read_cutter(write_cutter(cutter))
            for function in (excess_paper, fraction_paper, meeting_paper, lambda other: view_paper(other.book)):
                self.assertEqual([function(cutter), function(cutter)], [function(fresh)] * 2)


class NoneOfTheFollowing(unittest.TestCase):
    """One example against each sentence of [0.18], in their order."""

    def test_the_longest_piece_can_have_a_loss(self):
        self.assertEqual([set(ABBA.prices.values()), ABBA.starting("abba")], [{1}, ("a", "ab")])
        self.assertEqual(loss(ABBA, "abba", "ab"), 1)

    def test_one_sign_more_can_be_dearer(self):
        more = Cutter(Book({"a": 1, "aa": 9}), ("a", "aa"), view=2, table={"aa": "aa"})
        less = more.with_view(1)
        self.assertEqual([more.price("aa"), less.price("aa"), Race(more, less).greatest()], [9, 2, None])

    def test_a_further_piece_can_make_it_dearer(self):
        with_it, without = Cutter.longest_first(Book({"a": 1, "aa": 9})), Cutter.longest_first(Book({"a": 1}))
        race = Race(with_it, without)
        self.assertEqual([race.lead("aa"), race.greatest(), race.turned().greatest()], [7, None, 0])

    def test_a_lower_price_can_let_it_fall_behind_more(self):
        dear, cheap = Cutter.shortest_first(Book({"a": 5, "aa": 10})), Cutter.shortest_first(Book({"a": 5, "aa": 9}))
        self.assertEqual([greatest_excess(dear), greatest_excess(cheap)], [0, None])

    def test_a_short_text_can_be_enough(self):
        self.assertEqual([greatest_excess(LONGEST_EIGHT), worst_by_length(LONGEST_EIGHT, 3)[3]], [8, 8])

    def test_the_least_fraction_can_be_that_of_one_text(self):
        self.assertEqual(fraction_paper(LONGEST_NINE)[:3], ("reached", (11, 4), "aaaa"))
        self.assertEqual(excess_paper(LONGEST_NINE)[0], "bound")

    def test_some_cutters_are_behind_but_not_without_bound(self):
        self.assertEqual([LONGEST_NINE.behind("aaaa"), greatest_excess(LONGEST_NINE)], [7, 7])

    def test_no_view_is_enough_but_one_by_an_order_is_bounded(self):
        self.assertEqual([least_view(EIGHT), greatest_excess(LONGEST_EIGHT)], [None, 8])

    def test_some_view_is_enough_but_none_by_an_order(self):
        self.assertEqual(least_view(ABBA), 4)
        for view in (1, 2, 3, 4, 5):
            orders = permutations(ABBA.pieces)
            self.assertFalse(any(is_never_behind(Cutter(ABBA, order, view=view)) for order in orders))

    def test_two_pieces_can_be_safe_at_one_text(self):
        self.assertEqual(safe_pieces(Book({"a": 1, "aa": 2}), "aa"), ("a", "aa"))

    def test_a_piece_of_a_cheapest_cut_need_not_be_safe(self):
        self.assertEqual([cheapest(ABBA, "abb"), is_safe(ABBA, "abb", "ab")], [("ab", "b"), False])

    def test_cutters_that_are_never_behind_can_cut_in_two_ways(self):
        book = Book({"a": 1, "aa": 2})
        one, other = Cutter.longest_first(book), Cutter.shortest_first(book)
        self.assertEqual([is_never_behind(one), is_never_behind(other), one("aa"), other("aa")],
                         [True, True, ("aa",), ("a", "a")])
