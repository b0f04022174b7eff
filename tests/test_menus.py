"""Menus, beside the excess of the cutter with each part: stage 14."""

import unittest
from itertools import combinations

from cutbehind.base.books import Book
from cutbehind.bounds.excess import is_never_behind, worst_text
from cutbehind.cuts.cutters import Cutter
from cutbehind.errors import InvalidCutter, InvalidMenu, InvalidOperation, TooMany
from cutbehind.menus import menus as module
from cutbehind.menus.menus import Menu
from tests.samples import ABBA, HASTY, LONGEST_EIGHT, LONGEST_NINE, NINE, NO_CUTTERS, ODD, SEEING, STRANGE, all_texts

COINS = Cutter.longest_first(Book({"a": 1, "aaa": 1, "aaaa": 1}))
PLAIN = Cutter.longest_first(Book({"a": 1, "b": 1}))
OFFERS = (
    (COINS, {"aa": (1, 2), "aaaaa": (1, 0)}),
    (Cutter.longest_first(Book({"a": 1})), {"aaa": (1, 0), "aaaa": (1, 0)}),
    (HASTY, {}), (HASTY, {"abba": (1, 0)}), (HASTY, {"abb": (1, 2), "ba": (2, 4), "bb": (1, 4)}),
    (PLAIN, {"ab": (1, 0), "ba": (1, 0), "bab": (1, 0), "aabb": (2, 1)}), (LONGEST_NINE, {"aaaa": (3, 1)}),
    (Cutter.longest_first(ODD), {"xx": (1, 0), "ba": (3, 6)}), (LONGEST_EIGHT, {"xax": (1, 0)}),
    (Cutter(Book({"a": 2, "b": 1, "ab": 5}), ("b", "ab", "a")), {"bb": (1, 0), "aab": (2, 1), "ba": (3, 3)}),
)
MENUS = [Menu(cutter, pieces) for cutter, pieces in OFFERS]
COIN_MENU = MENUS[0]
NO_PARTS = STRANGE + (
    ("aaaaa", "aa"), ("aa", "aa"), ("a",), ("aaa",), ["aa"], "aa", None, 1, ("aa", None), {"aa": (1, 2)}, (("aa",),),
    ("aa", "aaaaa", "b"), ("",), ((),), ("aa", ("aaaaa",)), ABBA, COIN_MENU, (ABBA,), (["aa"],),
)


def plain_parts(pieces):
    """All parts, by the number of pieces, then ascending."""
    return [part for many in range(len(pieces) + 1) for part in combinations(sorted(pieces), many)]


def plain_with(cutter, pieces, part):
    """The cutter with a part, one piece after the other."""
    order = []
    for index in range(len(cutter.order) + 1):
        order += sorted(piece for piece in part if pieces[piece][1] == index)
        order += cutter.order[index:index + 1]
    return Cutter(Book({**cutter.book.prices, **{piece: pieces[piece][0] for piece in part}}), tuple(order))


class Examples(unittest.TestCase):
    def test_the_document(self):
        menu = Menu(COINS, {"aa": (1, 2), "aaaaa": (1, 0)})
        self.assertEqual(
            [menu.least(), menu.good(), menu.reason(()), menu.reason(("aaaaa",)),
             menu.cutter_with(("aa", "aaaaa")).order],
            [(("aa",),), (("aa",), ("aa", "aaaaa")), "aaaaaa", "aaaaaaa", ("aaaaa", "aaaa", "aaa", "aa", "a")],
        )
        both = Menu(Cutter.longest_first(Book({"a": 1})), {"aaa": (1, 0), "aaaa": (1, 0)})
        self.assertEqual(
            [both.least(), both.spoilers(), both.reason(("aaa", "aaaa"))],
            [((),), ((("aaa",), "aaaa"), (("aaaa",), "aaa")), "aaaa"],
        )

    def test_all_four_books(self):
        for cutter in (HASTY, Cutter.longest_first(ODD), LONGEST_EIGHT, LONGEST_NINE):
            menu = Menu(cutter, {})
            self.assertEqual([menu.good(), menu.least(), menu.spoilers(), len(menu)], [(), (), (), 0])
            self.assertEqual(list(menu.parts()), [()])
            self.assertGreater(cutter.behind(menu.reason(())), 0)

    def test_the_constant(self):
        self.assertEqual(module.MAX_MENU, 6)


class Parts(unittest.TestCase):
    def test_their_order(self):
        for menu, (_, pieces) in zip(MENUS, OFFERS):
            self.assertEqual(list(menu.parts()), plain_parts(pieces))
            self.assertEqual(list(menu.parts()), list(menu.parts()))
        menu = Menu(Cutter.longest_first(Book({"a": 3})), {"a" * many: (many, 0) for many in range(2, 6)})
        self.assertEqual(len(list(menu.parts())), 16)

    def test_the_cutter_with_each_part(self):
        for menu, (cutter, pieces) in zip(MENUS, OFFERS):
            for part in menu.parts():
                found = menu.cutter_with(part)
                self.assertEqual(found, plain_with(cutter, pieces, part))
                self.assertEqual([found.table, found.ends, found.view], [{}, {}, found.book.longest])
            self.assertEqual(menu.cutter_with(()), cutter)

    def test_places(self):
        pieces = {"ba": (1, 1), "aa": (2, 1), "bbbbb": (3, 2), "bb": (4, 0), "abb": (5, 2)}
        menu = Menu(Cutter(Book({"a": 1, "b": 1}), ("b", "a")), pieces)
        self.assertEqual(menu.cutter_with(("aa", "ba")).order, ("b", "aa", "ba", "a"))
        self.assertEqual(menu.cutter_with(("abb", "bbbbb")).order, ("b", "a", "abb", "bbbbb"))
        everything = menu.cutter_with(tuple(sorted(pieces)))
        self.assertEqual(everything.order, ("bb", "b", "aa", "ba", "a", "abb", "bbbbb"))
        self.assertEqual([everything.view, everything.book["bbbbb"]], [5, 3])
        self.assertEqual(menu.cutter_with(("aa",)).view, 2)

    def test_values_that_are_no_parts(self):
        for value in NO_PARTS:
            if value != ():
                for call in (COIN_MENU.cutter_with, COIN_MENU.is_good, COIN_MENU.reason):
                    with self.assertRaises(InvalidOperation):
                        call(value)


class Good(unittest.TestCase):
    def test_beside_the_excess(self):
        good = 0
        for menu in MENUS:
            for part in menu.parts():
                cutter = menu.cutter_with(part)
                self.assertIs(menu.is_good(part), is_never_behind(cutter))
                good += menu.is_good(part)
            self.assertEqual(menu.good(), tuple(part for part in menu.parts() if menu.is_good(part)))
        self.assertGreater(good, 8)

    def test_beside_all_texts(self):
        for menu in MENUS:
            for part in menu.parts():
                cutter = menu.cutter_with(part)
                texts = all_texts(cutter.book.alphabet, 7)
                behind = [text for text in texts if cutter.behind(text) > 0]
                reason = menu.reason(part)
                self.assertIs(menu.is_good(part), reason is None)
                if behind:
                    self.assertEqual(len(reason), len(behind[0]))
                if reason is not None:
                    self.assertGreater(cutter.behind(reason), 0)
                    worst = worst_text(cutter)
                    self.assertTrue(worst is None or cutter.behind(worst) >= cutter.behind(reason))

    def test_least(self):
        for menu in MENUS:
            good = menu.good()
            expected = [part for part in good if not any(set(other) < set(part) for other in good)]
            self.assertEqual(menu.least(), tuple(expected))

    def test_spoilers(self):
        found = 0
        for menu in MENUS:
            good = menu.good()
            expected = [(part, piece) for part in good for piece in menu
                        if piece not in part and tuple(sorted(part + (piece,))) not in good]
            self.assertEqual(menu.spoilers(), tuple(expected))
            found += len(expected)
        self.assertGreater(found, 4)


class Papers(unittest.TestCase):
    def test_what_is_told_is_accepted(self):
        for menu in MENUS:
            good, reasons = menu.paper()
            self.assertEqual(good, menu.good())
            self.assertEqual(list(reasons), sorted(part for part in menu.parts() if part not in good))
            self.assertTrue(all(menu.cutter_with(part).behind(text) > 0 for part, text in reasons.items()))
            self.assertIs(menu.is_paper((good, reasons)), True)
            self.assertIs(menu.is_paper((good, dict(reversed(reasons.items())))), True)
            self.assertEqual(menu.paper(), (good, reasons))

    def test_other_reasons(self):
        for menu in MENUS[:6]:
            good, reasons = menu.paper()
            for part in reasons:
                cutter = menu.cutter_with(part)
                for text in all_texts(cutter.book.alphabet, 5) + [cutter.book.alphabet[0] * 8000]:
                    expected = cutter.behind(text) > 0
                    self.assertIs(menu.is_paper((good, {**reasons, part: text})), expected)
                for text in (None, 1, "z", ("a",), ["a"], "a" * 8001, "A", {}, ABBA):
                    self.assertIs(menu.is_paper((good, {**reasons, part: text})), False)

    def test_a_part_left_out_and_one_too_many(self):
        for menu in MENUS:
            good, reasons = menu.paper()
            for part in reasons:
                fewer = {other: reasons[other] for other in reasons if other != part}
                self.assertIs(menu.is_paper((good, fewer)), False)
                self.assertIs(menu.is_paper((good + (part,), fewer)), False)
                self.assertIs(menu.is_paper((good, {**fewer, None: reasons[part]})), False)
                self.assertIs(menu.is_paper((good, {**fewer, part + ("z",): reasons[part]})), False)
            for part in good:
                others = tuple(other for other in good if other != part)
                text = menu.cutter_with(part).book.alphabet[0]
                self.assertIs(menu.is_paper((others, reasons)), False)
                self.assertIs(menu.is_paper((others, {**reasons, part: text})), False)
                self.assertIs(menu.is_paper((good, {**reasons, part: text})), False)
                self.assertIs(menu.is_paper((good + (part,), reasons)), False)
            for other in ((("zz",),), (None,)):
                self.assertIs(menu.is_paper((good + other, reasons)), False)

    def test_the_order_of_the_good_parts(self):
        good, reasons = COIN_MENU.paper()
        self.assertEqual(len(good), 2)
        self.assertIs(COIN_MENU.is_paper((good[::-1], reasons)), False)
        self.assertIs(COIN_MENU.is_paper((list(good), reasons)), False)
        self.assertIs(COIN_MENU.is_paper((tuple(map(list, good)), reasons)), False)

    def test_lists_and_lengths(self):
        for menu in MENUS[:3]:
            paper = good, reasons = menu.paper()
            wrong = (list(paper), paper[:1], paper + (0,), (reasons, good), (good, list(reasons.items())), (good, None),
                     (None, reasons), (paper,), (), good, reasons, (good, tuple(reasons)), {good: 1})
            for value in wrong + STRANGE + (1, "", menu, menu.cutter):
                self.assertIs(menu.is_paper(value), False)

    def test_what_was_told_changed_afterwards(self):
        COIN_MENU.paper()[1].clear()
        COIN_MENU.pieces.clear()
        self.assertIs(COIN_MENU.is_paper(COIN_MENU.paper()), True)
        self.assertEqual(len(COIN_MENU.pieces), 2)


class Menus(unittest.TestCase):
    def test_properties_and_operators(self):
        for menu, (cutter, pieces) in zip(MENUS, OFFERS):
            self.assertEqual([menu.cutter, menu.pieces], [cutter, pieces])
            self.assertEqual([list(menu), list(menu.pieces), len(menu)], [sorted(pieces)] * 2 + [len(pieces)])
            self.assertEqual(str(menu), f"menu of {len(pieces)} pieces")
            self.assertTrue(all(piece in menu for piece in pieces))
        for value in STRANGE + ("a", "aaa", ("aa",), 1, ABBA, ["aa"], {"aa": 1}):
            self.assertIs(value in COIN_MENU, False)
        for name in ("cutter", "pieces"):
            with self.assertRaises(AttributeError):
                setattr(COIN_MENU, name, None)

    def test_equal_menus(self):
        same = Menu(Cutter.longest_first(Book(COINS.book.prices)), {"aaaaa": (1, 0), "aa": (1, 2)})
        self.assertIs(COIN_MENU == same, True)
        self.assertIs(COIN_MENU != same, False)
        others = (Menu(COINS, {}), Menu(COINS, {"aa": (1, 2)}), Menu(COINS, {"aa": (1, 1), "aaaaa": (1, 0)}),
                  Menu(COINS, {"aa": (2, 2), "aaaaa": (1, 0)}), COINS, COIN_MENU.pieces)
        for value in STRANGE + others + tuple(MENUS[1:]):
            self.assertIs(COIN_MENU == value, False)
            self.assertIs(COIN_MENU != value, True)

    def test_what_is_passed_changed_afterwards(self):
        pieces = {"aa": (1, 2), "aaaaa": (1, 0)}
        menu = Menu(COINS, pieces)
        pieces["aa"] = (9, 0)
        pieces["aaaaaa"] = None
        self.assertEqual(menu, COIN_MENU)


class Refused(unittest.TestCase):
    def test_cutters(self):
        others = (SEEING, HASTY.with_view(4), HASTY.with_view(2), HASTY.with_table({"a": "a"}, None),
                  HASTY.with_table(None, {"a": "a"}), Cutter(NINE, NINE.pieces, view=5))
        for value in NO_CUTTERS + others:
            for pieces in ({}, {"aa": (1, 0)}, None):
                with self.assertRaises(InvalidCutter):
                    Menu(value, pieces)
        self.assertEqual(Menu(Cutter(NINE, NINE.pieces, view=3), {}).good(), ())

    def test_offers(self):
        self.assertEqual(len(Menu(HASTY, {"aa": (1, 0), "bbbbb": (99, 4)})), 2)
        for piece in ("a", "ab", "bba", "c", "ac", "", "aaaaaa", "A", None, 1, ("aa",), True, 10 ** 60):
            with self.assertRaises(InvalidMenu):
                Menu(HASTY, {piece: (1, 0)})
        for price in STRANGE + (0, 100, -1, True, None, "1", (1,), 1.0, ABBA):
            if price != 1 or isinstance(price, bool):
                with self.assertRaises(InvalidMenu):
                    Menu(HASTY, {"aa": (price, 0)})
        for place in STRANGE + (-1, 5, True, False, None, "0", (0,), ABBA, 10 ** 60):
            if place != 0 or isinstance(place, bool):
                with self.assertRaises(InvalidMenu):
                    Menu(HASTY, {"aa": (1, place)})
        for offer in (1, (1,), (1, 0, 0), [1, 0], "10", None, ((1, 0),), {1: 0}, ABBA):
            with self.assertRaises(InvalidMenu):
                Menu(HASTY, {"bb": (1, 0), "aa": offer})
        for value in STRANGE + (1, "", "aa", ("aa",), ["aa"], (("aa", (1, 0)),), ABBA, HASTY, COIN_MENU):
            if value != {}:
                with self.assertRaises(InvalidMenu):
                    Menu(HASTY, value)

    def test_seven_pieces(self):
        pieces = {piece: (1, 0) for piece in ("aa", "bb", "ba", "aab", "abb", "bab", "bbb")}
        with self.assertRaises(InvalidMenu):
            Menu(HASTY, pieces)
        del pieces["bbb"]
        self.assertEqual(len(list(Menu(HASTY, pieces).parts())), 64)

    def test_thirteen_pieces_together(self):
        names = ("aa", "ab", "bb", "ba", "aab", "abb")
        cutter = Cutter.longest_first(Book({"a": 1, "b": 2, **{name: 3 for name in names}}))
        four = {name: (1, 8) for name in ("baa", "bab", "bba", "bbb")}
        self.assertEqual(len(Menu(cutter, four)), 4)
        for extra in ("aaa", "aaaaa"):
            with self.assertRaises(TooMany) as caught:
                Menu(cutter, {**four, extra: (1, 8)})
            self.assertEqual(caught.exception.limit, 12)
        with self.assertRaises(InvalidMenu):
            Menu(cutter, {**four, "aaa": (1, 9)})

    def test_more_than_2000_stands_with_some_part(self):
        prices = {"a": 8, "aab": 4, "b": 5, "baa": 2, "bcc": 6, "c": 1}
        cutter = Cutter.longest_first(Book(prices))
        self.assertEqual(len(Menu(cutter, {})), 0)
        for pieces in ({"abbca": (4, 0)}, {"abbca": (4, 0), "cc": (1, 3)}):
            with self.assertRaises(TooMany) as caught:
                Menu(cutter, pieces)
            self.assertEqual(caught.exception.limit, 2000)
        with self.assertRaises(InvalidMenu):
            Menu(cutter, {"abbca": (4, 7)})
