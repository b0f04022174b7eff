"""Cutters, beside a plain walk: stage 4."""

import unittest

from cutbehind.base.books import Book
from cutbehind.cuts import cutters as module
from cutbehind.cuts.cuts import cheapest_price, is_cut, loss, price_of
from cutbehind.cuts.cutters import Cutter
from cutbehind.errors import InvalidBook, InvalidCutter, InvalidOperation, InvalidText
from tests.samples import ABBA, EIGHT, HASTY, NINE, NO_BOOKS, NO_TEXTS, ODD, SEEING, STRANGE, all_texts
from tests.samples import small_books, small_cutters

ORDER = ("ab", "a", "bba", "b")
NO_DICTS = tuple(value for value in STRANGE if value is not None and value != {})
# 2001 texts of twelve signs.
MANY = ["a" + "".join("ab"[number >> place & 1] for place in range(11)) for number in range(2001)]


def plain_tell(cutter, window, ended):
    """What [4.1] says, in its three steps."""
    if ended and window in cutter.ends:
        return cutter.ends[window]
    fitting = [text for text in cutter.table if window.startswith(text)]
    if fitting:
        return cutter.table[min(fitting, key=len)]
    return [piece for piece in cutter.order if window.startswith(piece)][0]


def plain_walk(cutter, text):
    """The cut of the text, window by window."""
    pieces = []
    while text:
        window = text[:cutter.view]
        pieces.append(cutter.tell(window, ended=len(window) < cutter.view))
        text = text[len(pieces[-1]):]
    return tuple(pieces)


class Examples(unittest.TestCase):
    def test_the_document(self):
        self.assertEqual(
            [HASTY.order, HASTY.view, HASTY("abba"), HASTY.price("abba"), HASTY.behind("abba"), HASTY.losses("abba")],
            [("bba", "ab", "a", "b"), 3, ("ab", "b", "a"), 3, 1, (1, 0, 0)],
        )
        self.assertEqual(
            [SEEING("abba"), SEEING("abbb"), SEEING.tell("abba"), SEEING.tell("abb", ended=True), str(SEEING)],
            [("a", "bba"), ("ab", "b", "b"), "a", "ab", "cutter with a view of 4 over 4 pieces"],
        )

    def test_the_constants(self):
        self.assertEqual([module.MAX_VIEW, module.MAX_WINDOWS], [2000, 2000])

    def test_a_ring_of_the_document(self):
        self.assertEqual([HASTY.behind("a" + "bba" * many) for many in range(6)], [0, 1, 2, 3, 4, 5])


class Making(unittest.TestCase):
    def refuse(self, order, **rest):
        before = repr((order, rest))
        with self.assertRaises(InvalidCutter):
            Cutter(ABBA, order, **rest)
        self.assertEqual(repr((order, rest)), before)

    def test_books(self):
        for value in NO_BOOKS:
            with self.assertRaises(InvalidBook):
                Cutter(value, ORDER)
            with self.assertRaises(InvalidBook):
                Cutter(value, None, view=0, table=1, ends=1)
            with self.assertRaises(InvalidBook):
                Cutter.longest_first(value)
            with self.assertRaises(InvalidBook):
                Cutter.shortest_first(value)

    def test_orders(self):
        for order in (ORDER, ORDER[::-1], ABBA.pieces, ("b", "bba", "ab", "a")):
            self.assertEqual(Cutter(ABBA, order).order, order)
        wrong = (
            ORDER[:3], ORDER[1:], (), ORDER + ("a",), ORDER + ("aa",), ("ab", "ab", "a", "bba"),
            ("ab", "a", "bba", "bb"), list(ORDER), "ab", "".join(ORDER), {piece: 1 for piece in ORDER},
            ("ab", "a", "bba", None), ("ab", "a", "bba", ["b"]), ("ab", "a", "bba", 1),
            ("ab", "a", "bba", ("b",)), (ORDER,), ABBA,
        )
        for order in wrong + STRANGE:
            self.refuse(order)

    def test_views(self):
        self.assertEqual([Cutter(ABBA, ORDER, view=view).view for view in (1, 2, 3, 1999, 2000)], [1, 2, 3, 1999, 2000])
        self.assertEqual([Cutter(ABBA, ORDER, view=None).view, Cutter(ODD, ODD.pieces).view], [3, 2])
        self.assertEqual(Cutter(Book({"a": 1}), ("a",)).view, 1)
        for view in (0, 2001, -1, True, False, 10 ** 60, "3", "", (3,), [3], {}, 3.0, ABBA):
            self.refuse(ORDER, view=view)

    def test_tables(self):
        for table in ({}, {"a": "a"}, {"abb": "ab"}, {"b": "b", "bba": "bba", "a": "a"}, {"bba": "b"}):
            cutter = Cutter(ABBA, ORDER, table=table)
            self.assertEqual(cutter.table, table)
            self.assertEqual(list(cutter.table), sorted(table))
            self.assertEqual(cutter.ends, {})
        wrong = (
            {"": "a"}, {"abba": "a"}, {"c": "c"}, {"ac": "a"}, {"a": "b"}, {"a": "ab"}, {"bb": "bba"}, {"ab": ""},
            {"ab": None}, {"ab": ["ab"]}, {"ab": "abb"}, {"ba": "ba"}, {1: "a"}, {None: "a"}, {("a",): "a"}, {"A": "A"},
            {"a": "a", "abba": "a"}, {"a": "a", "b": "a"}, {True: "a"}, {"aa": "aa"}, {"a": ("a",)}, {"a": 1},
        )
        for table in wrong + tuple(value for value in NO_DICTS if value != {"a": "a"}):
            self.refuse(ORDER, table=table)
            self.refuse(ORDER, ends=table)

    def test_texts_as_long_as_the_view(self):
        for view in (1, 2, 4, 9, 2000):
            self.assertEqual(Cutter(ABBA, ORDER, view=view, table={"a" * view: "a"}).table, {"a" * view: "a"})
            self.refuse(ORDER, view=view, table={"a" * (view + 1): "a"})
            self.refuse(ORDER, view=view, ends={"a" * view: "a"})
        for view in (2, 4, 9, 2000):
            self.assertEqual(Cutter(ABBA, ORDER, view=view, ends={"a" * (view - 1): "a"}).ends, {"a" * (view - 1): "a"})
        self.refuse(ORDER, view=1, ends={"a": "a"})
        self.assertEqual(Cutter(ABBA, ORDER, view=1, ends={}).ends, {})

    def test_2000_and_2001_texts(self):
        self.assertEqual(len(set(MANY)), 2001)
        every = {text: "a" for text in MANY}
        some = {text: "a" for text in MANY[:2000]}
        self.assertEqual(len(Cutter(ABBA, ORDER, view=13, table=some, ends=some).table), 2000)
        self.refuse(ORDER, view=13, table=every)
        self.refuse(ORDER, view=13, ends=every)
        cutter = Cutter(ABBA, ORDER, view=13)
        with self.assertRaises(InvalidCutter):
            cutter.with_table(every, None)
        with self.assertRaises(InvalidCutter):
            cutter.with_table(None, every)
        self.assertEqual(len(cutter.with_table(some, some).ends), 2000)

    def test_several_wrong_parts(self):
        self.refuse(None, view=0, table=1, ends=1)
        self.refuse(ORDER, view=0, table={"a": "a"})
        self.refuse(ORDER, view=2, table={"abb": "a"}, ends={"ab": "a"})

    def test_what_was_passed_or_told(self):
        table, ends = {"b": "b", "ab": "a"}, {"bb": "b", "a": "a"}
        cutter = Cutter(ABBA, ORDER, table=table, ends=ends)
        same = Cutter(ABBA, ORDER, table={"ab": "a", "b": "b"}, ends={"a": "a", "bb": "b"})
        table["ab"] = "ab"
        ends.clear()
        cutter.table["ab"] = "ab"
        cutter.ends.clear()
        cutter.book.prices.clear()
        self.assertEqual([cutter.table, cutter.ends, cutter("abba")], [{"ab": "a", "b": "b"}, {"a": "a", "bb": "b"},
                                                                   ("a", "b", "b", "a")])
        self.assertTrue(cutter == same)
        for name in ("book", "order", "view", "table", "ends"):
            with self.assertRaises(AttributeError):
                setattr(cutter, name, None)

    def test_it_cannot_be_iterated_over(self):
        with self.assertRaises(TypeError):
            iter(HASTY)
        with self.assertRaises(TypeError):
            list(HASTY)


class ByLength(unittest.TestCase):
    def test_longest_first(self):
        self.assertEqual(Cutter.longest_first(ODD).order, ("aa", "ab", "xa", "a", "b", "x"))
        self.assertEqual(Cutter.shortest_first(ODD).order, ("a", "b", "x", "aa", "ab", "xa"))
        self.assertEqual(Cutter.shortest_first(ABBA).order, ("a", "b", "ab", "bba"))
        for prices in small_books():
            book = Book(prices)
            longest, shortest = Cutter.longest_first(book), Cutter.shortest_first(book)
            self.assertEqual(list(longest.order), sorted(prices, key=lambda piece: (-len(piece), piece)))
            self.assertEqual(list(shortest.order), sorted(prices, key=lambda piece: (len(piece), piece)))
            for cutter in (longest, shortest):
                self.assertEqual([cutter.view, cutter.table, cutter.ends], [book.longest, {}, {}])
                self.assertTrue(cutter.book == book)


class Telling(unittest.TestCase):
    def test_beside_the_three_steps(self):
        for cutter in small_cutters():
            for window in all_texts(cutter.book.alphabet, 5):
                if len(window) == cutter.view:
                    self.assertEqual(cutter.tell(window), plain_tell(cutter, window, False))
                    self.assertEqual(cutter.tell(window, ended=False), plain_tell(cutter, window, False))
                elif 0 < len(window) < cutter.view:
                    self.assertEqual(cutter.tell(window, ended=True), plain_tell(cutter, window, True))

    def test_each_step_decides(self):
        table = {"ab": "a", "abb": "ab", "bb": "b"}
        cutter = Cutter(ABBA, ("bba", "ab", "a", "b"), view=4, table=table, ends={"bb": "b"})
        self.assertEqual(cutter.tell("abba"), "a")
        self.assertEqual(cutter.tell("abb", ended=True), "a")
        self.assertEqual(cutter.tell("bbab"), "b")
        self.assertEqual(cutter.tell("baba"), "b")
        other = cutter.with_table({"ab": "a"}, {"ab": "ab", "bba": "b"})
        self.assertEqual([other.tell("ab", ended=True), other.tell("abb", ended=True)], ["ab", "a"])
        self.assertEqual(other.tell("abbb"), "a")
        self.assertEqual([other.tell("bba", ended=True), other.tell("bbaa"), other.tell("bb", ended=True)],
                         ["b", "bba", "b"])
        orders = (("a", "ab", "b", "bba"), ("ab", "a", "bba", "b"), ("b", "bba", "ab", "a"))
        told = [[other.with_order(order).tell(window) for order in orders] for window in ("aaaa", "bbab")]
        self.assertEqual(told, [["a", "a", "a"], ["b", "bba", "b"]])

    def test_the_shortest_text_of_the_table(self):
        table = {"abbab": "ab", "abba": "a", "abb": "ab", "ba": "b", "b": "b", "bba": "bba"}
        cutter = Cutter(ABBA, ORDER, view=6, table=table)
        for window in all_texts("ab", 6):
            if len(window) == 6:
                self.assertEqual(cutter.tell(window), plain_tell(cutter, window, False))
        self.assertEqual([cutter.tell("abbabb"), cutter.tell("bbabab")], ["ab", "b"])
        many = Cutter(ABBA, ORDER, view=13, table={text: "a" for text in MANY[:2000:3]})
        for text in MANY[::7]:
            self.assertEqual(many.tell(text + "a"), plain_tell(many, text + "a", False))
            self.assertEqual(many.tell(text, ended=True), plain_tell(many, text, True))

    def test_a_piece_lies_within_the_window(self):
        narrow = HASTY.with_view(1)
        self.assertEqual([narrow.tell("a"), narrow.tell("b"), narrow("abba")], ["a", "b", ("a", "b", "b", "a")])
        self.assertEqual([HASTY.with_view(2).tell("bb"), HASTY.with_view(2)("bba")], ["b", ("b", "b", "a")])
        self.assertEqual(HASTY.tell("bb", ended=True), "b")

    def test_windows_that_are_no_texts(self):
        for value in NO_TEXTS:
            for ended in (True, False, None):
                with self.assertRaises(InvalidText):
                    HASTY.tell(value, ended=ended)

    def test_ended_that_is_no_boolean(self):
        for value in (None, 0, 1, "", "a", (), [], {}, ABBA):
            for window in ("", "a", "abb", "abba"):
                with self.assertRaises(InvalidOperation):
                    HASTY.tell(window, ended=value)

    def test_lengths_of_windows(self):
        for cutter in (HASTY, HASTY.with_view(1), HASTY.with_view(5), HASTY.with_view(2000)):
            for many in (0, 1, 2, 3, 4, 5, 6, 1999, 2000, 2001, 8000):
                window = "a" * many
                if many == cutter.view:
                    self.assertEqual(cutter.tell(window), "a")
                else:
                    with self.assertRaises(InvalidOperation):
                        cutter.tell(window)
                if 1 <= many < cutter.view:
                    self.assertEqual(cutter.tell(window, ended=True), "a")
                else:
                    with self.assertRaises(InvalidOperation):
                        cutter.tell(window, ended=True)


class Cutting(unittest.TestCase):
    def check(self, cutter, text):
        walked = plain_walk(cutter, text)
        self.assertEqual(cutter(text), walked)
        self.assertEqual(cutter.cut(text), walked)
        self.assertIs(is_cut(cutter.book, text, walked), True)
        self.assertEqual(cutter.price(text), price_of(cutter.book, walked))
        self.assertEqual(cutter.behind(text), cutter.price(text) - cheapest_price(cutter.book, text))
        self.assertEqual(sum(cutter.losses(text)), cutter.behind(text))

    def test_beside_a_walk(self):
        for cutter in small_cutters():
            for text in all_texts(cutter.book.alphabet, 6)[::3]:
                self.check(cutter, text)
        for book in (ODD, EIGHT, NINE):
            for text in all_texts(book.alphabet, 4):
                self.check(Cutter.longest_first(book), text)
                self.check(Cutter.shortest_first(book), text)

    def test_losses_of_each_piece(self):
        for cutter in small_cutters()[::3]:
            for text in all_texts(cutter.book.alphabet, 5):
                pieces = cutter(text)
                rests = ["".join(pieces[place:]) for place in range(len(pieces))]
                self.assertEqual(
                    cutter.losses(text),
                    tuple(loss(cutter.book, rest, piece) for rest, piece in zip(rests, pieces)),
                )

    def test_the_empty_text(self):
        for cutter in (HASTY, SEEING, Cutter.longest_first(NINE)):
            values = [cutter(""), cutter.cut(""), cutter.price(""), cutter.behind(""), cutter.losses("")]
            self.assertEqual(values, [(), (), 0, 0, ()])

    def test_8000_signs(self):
        text = ("abbabbabaabbbaba" * 500)[:8000]
        ends = {"a" * many: "a" for many in range(1, 9)}
        table = {"abb": "a", "bbabb": "b"}
        for cutter in (HASTY, SEEING, HASTY.with_view(2000), HASTY.with_view(9).with_table(table, ends)):
            self.check(cutter, text)
            self.check(cutter, "a" * 8000)
        self.assertEqual(HASTY("bba" * 2666), ("bba",) * 2666)
        self.assertEqual([HASTY.price("abba" * 2000), HASTY.behind("abba" * 2000)], [6000, 2000])

    def test_ended_windows_begin_where_fewer_signs_are_left_than_the_view(self):
        cutter = Cutter(ABBA, ("ab", "a", "bba", "b"), view=3, ends={"ab": "a", "a": "a"})
        self.assertEqual([cutter("ab"), cutter("aba"), cutter("abab")], [("a", "b"), ("ab", "a"), ("ab", "a", "b")])

    def test_texts_that_are_refused(self):
        for value in NO_TEXTS:
            for function in (HASTY, HASTY.cut, HASTY.price, HASTY.behind, HASTY.losses):
                with self.assertRaises(InvalidText):
                    function(value)


class Others(unittest.TestCase):
    def test_with_table(self):
        cutter = SEEING.with_table({"b": "b"}, {"a": "a", "abb": "a"})
        self.assertTrue(cutter == Cutter(ABBA, ORDER, view=4, table={"b": "b"}, ends={"abb": "a", "a": "a"}))
        self.assertEqual([SEEING.table, SEEING.ends], [{"abba": "a"}, {}])
        self.assertTrue(SEEING.with_table(None, None) == Cutter(ABBA, ORDER, view=4))
        self.assertTrue(cutter.with_table(None, {"a": "a"}) == Cutter(ABBA, ORDER, view=4, ends={"a": "a"}))
        self.assertTrue(cutter.with_table({"a": "a"}, None) == Cutter(ABBA, ORDER, view=4, table={"a": "a"}))
        table, ends = {"a": "a"}, {"a": "a"}
        kept = SEEING.with_table(table, ends)
        table["b"] = ends["b"] = "b"
        self.assertEqual([kept.table, kept.ends], [{"a": "a"}, {"a": "a"}])

    def test_with_table_refuses(self):
        wrong = NO_DICTS + ({"abbab": "a"}, {"": "a"}, {"a": "b"}, {"c": "c"})
        for value in wrong:
            if value != {"a": "a"}:
                for table, ends in ((value, None), (None, value), (value, value), ({"a": "a"}, value)):
                    with self.assertRaises(InvalidCutter):
                        SEEING.with_table(table, ends)
        with self.assertRaises(InvalidCutter):
            SEEING.with_table(None, {"abba": "a"})

    def test_with_order(self):
        cutter = Cutter(ABBA, ORDER, view=4, table={"abba": "a"}, ends={"a": "a"}).with_order(ABBA.pieces)
        self.assertTrue(cutter == Cutter(ABBA, ABBA.pieces, view=4, table={"abba": "a"}, ends={"a": "a"}))
        for value in STRANGE + ((), ORDER[:3], ORDER + ("a",), list(ORDER), ("ab", "ab", "a", "b"), ODD.pieces):
            with self.assertRaises(InvalidCutter):
                cutter.with_order(value)

    def test_with_view_keeps_what_is_short_enough(self):
        texts = [text for text in all_texts("ab", 5) if text]
        table = {text: text[0] for text in texts}
        ends = {text: text[0] for text in texts if len(text) < 5}
        cutter = Cutter(ABBA, ORDER, view=5, table=table, ends=ends)
        for view in range(1, 8):
            other = cutter.with_view(view)
            self.assertEqual(other.view, view)
            self.assertEqual(other.order, ORDER)
            self.assertEqual(other.table, {text: text[0] for text in texts if len(text) <= view})
            self.assertEqual(other.ends, {text: text[0] for text in texts if len(text) < min(view, 5)})
        self.assertTrue(cutter.with_view(None) == cutter.with_view(3))
        self.assertTrue(cutter.with_view(5) == cutter)
        self.assertEqual([len(cutter.table), len(cutter.ends)], [62, 30])

    def test_with_view_refuses(self):
        for value in STRANGE + (0, 2001, True, "3", (3,), 3.0):
            if value not in (None, 100):
                with self.assertRaises(InvalidCutter):
                    SEEING.with_view(value)
        self.assertEqual(SEEING.with_view(2000).view, 2000)

    def test_equality(self):
        parts = dict(view=4, table={"abba": "a"}, ends={"a": "a"})
        cutter = Cutter(ABBA, ORDER, **parts)
        same = Cutter(Book(ABBA.prices), tuple(ORDER), **parts)
        self.assertIs(cutter == same, True)
        self.assertIs(cutter != same, False)
        others = (
            Cutter(ABBA.with_price("ab", 2), ORDER, **parts), Cutter(ABBA, ABBA.pieces, **parts),
            Cutter(ABBA, ORDER, **{**parts, "view": 5}), Cutter(ABBA, ORDER, **{**parts, "table": {"abba": "ab"}}),
            Cutter(ABBA, ORDER, **{**parts, "table": None}), Cutter(ABBA, ORDER, **{**parts, "ends": {"b": "b"}}),
            Cutter(ABBA, ORDER, **{**parts, "ends": {}}), HASTY, Cutter.longest_first(ODD),
        )
        for other in others + STRANGE + (1, (), "", str(cutter), ABBA, cutter.order):
            self.assertIs(cutter == other, False)
            self.assertIs(other == cutter, False)
            self.assertIs(cutter != other, True)
            self.assertIs(other != cutter, True)

    def test_str(self):
        self.assertEqual(str(HASTY), "cutter with a view of 3 over 4 pieces")
        self.assertEqual(str(Cutter(Book({"a": 1}), ("a",))), "cutter with a view of 1 over 1 pieces")
        self.assertEqual(str(Cutter.longest_first(ODD).with_view(2000)), "cutter with a view of 2000 over 6 pieces")
