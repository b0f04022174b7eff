"""The least view, beside a plain search by safe pieces: stage 11."""

import unittest
from unittest import mock

from cutbehind.base.books import Book
from cutbehind.bounds.excess import excess_paper, is_never_behind
from cutbehind.cuts.cuts import harmless, loss
from cutbehind.cuts.cutters import Cutter
from cutbehind.errors import InvalidBook, InvalidOperation, TooMany
from cutbehind.view import least as module
from cutbehind.view.least import cutter_by, is_view_paper, least_view, minimal_windows, view_paper
from cutbehind.view.safe import against, is_safe, safe_pieces
from tests.samples import ABBA, EIGHT, HASTY, NINE, NO_BOOKS, ODD, RICH, STRANGE, WITH_2001, all_texts, small_books

ONE = Book({"a": 3})
TWO = Book({"a": 3, "b": 4})
# Two pieces that are safe at one window.
BOTH = Book({"a": 1, "aa": 2, "b": 1, "bab": 2})
# A great least view; more than 2000 windows, though some view is enough; and more than 2000 fans.
DEEP = Book({"a": 2, "aab": 2, "b": 98, "bba": 99})
WIDE = Book({"a": 80, "aabb": 77, "b": 98, "bba": 2})
FANNED = Book({"a": 93, "ab": 9, "b": 30, "ba": 5, "baab": 85, "bb": 14})
LETTERS = [ONE, NINE, Book({"a": 1, "aa": 1}), Book({"a": 7, "aaa": 9, "aaaaa": 11}), Book({"a": 5, "aaaa": 9})]
BOOKS = [ABBA, ODD, EIGHT, NINE, TWO, BOTH] + LETTERS + [Book(prices) for prices in small_books()[::6]]
FUNCTIONS = (minimal_windows, least_view, view_paper)


def kinds():
    """The books with a paper of windows, and those with a paper of the other form."""
    papers = [(book, view_paper(book)) for book in BOOKS]
    return [pair for pair in papers if pair[1][0] == "windows"], [pair for pair in papers if pair[1][0] == "never"]


WITH_WINDOWS, WITHOUT = kinds()


def plain_windows(book, most):
    """The minimal windows of at most so many signs, and the texts of at least one sign at which no piece is safe."""
    windows, unsafe, layer = [], [], [""]
    for _ in range(most):
        longer = [text + sign for text in layer for sign in book.alphabet]
        windows += [text for text in longer if safe_pieces(book, text)]
        layer = [text for text in longer if not safe_pieces(book, text)]
        unsafe += layer
    return sorted(windows), sorted(unsafe)


class Examples(unittest.TestCase):
    def test_the_document(self):
        self.assertEqual(
            [minimal_windows(ABBA), least_view(ABBA), least_view(ODD), least_view(EIGHT)],
            [("aa", "aba", "abba", "abbb", "ba", "bba", "bbb"), 4, None, None],
        )
        kind, table, ends = view_paper(ABBA)
        self.assertEqual(
            [kind, table["abba"], table["abbb"], sorted(ends), ends["abb"],
             cutter_by(ABBA, (kind, table, ends))("abbabba")],
            ["windows", "a", "ab", ["a", "ab", "abb", "b", "bb"], "ab", ("a", "bba", "bba")],
        )
        self.assertEqual(
            [is_view_paper(ODD, ("never", "xaa", "aa", {"x": "b", "xa": "ab"})),
             is_view_paper(ODD, ("never", "x", "aa", {"x": "b", "xa": "ab"}))],
            [True, False],
        )
        self.assertIs(is_view_paper(EIGHT, ("never", "xaa", "aa", {"x": "a", "xa": ""})), True)

    def test_all_four_books(self):
        self.assertEqual([least_view(book) for book in (ABBA, ODD, EIGHT, NINE)], [4, None, None, 5])
        self.assertEqual([minimal_windows(book) for book in (ODD, EIGHT, NINE)], [None, None, ("aaaaa",)])
        self.assertEqual([view_paper(book)[0] for book in (ABBA, ODD, EIGHT, NINE)],
                         ["windows", "never", "never", "windows"])

    def test_the_constants(self):
        self.assertEqual([module.MAX_FANS, module.MAX_MINIMAL], [2000, 2000])


class BesideSafePieces(unittest.TestCase):
    def test_windows_up_to_six_signs(self):
        for book, (_, table, ends) in WITH_WINDOWS:
            windows, unsafe = plain_windows(book, min(least_view(book), 7))
            if least_view(book) <= 7:
                self.assertEqual(minimal_windows(book), tuple(windows))
                self.assertEqual(list(ends), unsafe)
            else:
                self.assertTrue(set(windows) < set(minimal_windows(book)))
                self.assertTrue(set(unsafe) < set(ends))

    def test_the_longest_window(self):
        for book, _ in WITH_WINDOWS:
            self.assertEqual(least_view(book), max(map(len, minimal_windows(book))))
            self.assertEqual(minimal_windows(book), tuple(sorted(set(minimal_windows(book)))))

    def test_no_view_is_enough(self):
        for book, (_, u, v, reasons) in WITHOUT:
            self.assertEqual([minimal_windows(book), least_view(book)], [None, None])
            self.assertTrue(v)
            for end in range(len(u) + 4 * len(v) + 1):
                self.assertEqual(safe_pieces(book, (u + v * 4)[:end]), ())
            for piece, reason in reasons.items():
                for many in range(6):
                    text = u + v * many
                    self.assertGreater(loss(book, text + reason, piece), 0)

    def test_books_of_one_letter(self):
        for book in LETTERS:
            windows, unsafe = plain_windows(book, 20)
            self.assertEqual([minimal_windows(book), least_view(book)], [tuple(windows), len(windows[0])])
            self.assertEqual(sorted(view_paper(book)[2]), unsafe)
        self.assertEqual([minimal_windows(ONE), minimal_windows(TWO), least_view(TWO)], [("a",), ("a", "b"), 1])

    def test_both_kinds_occur(self):
        self.assertGreater(min(len(WITH_WINDOWS), len(WITHOUT)), 5)


class Papers(unittest.TestCase):
    def test_what_is_told_is_accepted(self):
        for book, paper in WITH_WINDOWS + WITHOUT:
            self.assertIs(is_view_paper(book, paper), True)
            self.assertEqual(view_paper(book), paper)
            for part in paper[1:]:
                if isinstance(part, dict):
                    self.assertEqual(list(part), sorted(part))

    def test_windows_and_early_ends(self):
        for book, (_, table, ends) in WITH_WINDOWS:
            self.assertEqual(tuple(table), minimal_windows(book))
            self.assertTrue(all(is_safe(book, window, piece) for window, piece in table.items()))
            self.assertTrue(all(loss(book, text, piece) == 0 for text, piece in ends.items()))
            early = {window[:end] for window in table for end in range(1, len(window))}
            self.assertEqual(list(ends), sorted(early))

    def test_only_one_form(self):
        for book, paper in WITH_WINDOWS:
            for u, v in (("", "a"), ("aaaaa", "a"), ("abbab", "ab"), ("bbbbb", "ba")):
                if book.accepts(u + v):
                    for reason in ("", "a", "aa"):
                        value = ("never", u, v, dict.fromkeys(book.starting((u + v * 5)[:5]), reason))
                        self.assertIs(is_view_paper(book, value), False)
        for book, paper in WITHOUT:
            windows, unsafe = plain_windows(book, 4)
            table = {window: safe_pieces(book, window)[0] for window in windows}
            ends = {text: harmless(book, text)[0] for text in unsafe}
            for value in (("windows", table, ends), ("windows", {}, {}), ("windows", ends, table)):
                self.assertIs(is_view_paper(book, value), False)

    def test_what_was_told_changed_afterwards(self):
        kind, table, ends = view_paper(ABBA)
        table.clear()
        ends["a"] = None
        self.assertIs(is_view_paper(ABBA, view_paper(ABBA)), True)
        view_paper(ODD)[3].clear()
        self.assertIs(is_view_paper(ODD, view_paper(ODD)), True)


class OwnWindows(unittest.TestCase):
    """Papers of windows made by the test itself."""

    def accepted(self, book, table, ends):
        return is_view_paper(book, ("windows", table, ends))

    def test_each_piece_for_each_window(self):
        several = 0
        for book, (_, table, ends) in WITH_WINDOWS:
            for window in table:
                for piece in book.pieces:
                    expected = window.startswith(piece) and is_safe(book, window, piece)
                    self.assertIs(self.accepted(book, {**table, window: piece}, ends), expected)
                several += len(safe_pieces(book, window)) > 1
            for text in ends:
                for piece in book.pieces:
                    expected = text.startswith(piece) and loss(book, text, piece) == 0
                    self.assertIs(self.accepted(book, table, {**ends, text: piece}), expected)
                several += len(harmless(book, text)) > 1
        self.assertGreater(several, 5)

    def test_one_left_out_and_one_too_many(self):
        for book, (_, table, ends) in WITH_WINDOWS[:12]:
            for window in table:
                fewer = {text: table[text] for text in table if text != window}
                self.assertIs(self.accepted(book, fewer, ends), False)
                longer = window + book.alphabet[0]
                self.assertIs(self.accepted(book, {**table, longer: table[window]}, ends), False)
                self.assertIs(self.accepted(book, {**fewer, longer: table[window]}, ends), False)
                self.assertIs(self.accepted(book, {**fewer, None: table[window]}, ends), False)
                self.assertIs(self.accepted(book, table, {**ends, window: table[window]}), False)
            for text in ends:
                fewer = {other: ends[other] for other in ends if other != text}
                self.assertIs(self.accepted(book, table, fewer), False)
                self.assertIs(self.accepted(book, table, {**fewer, 1: ends[text]}), False)
                self.assertIs(self.accepted(book, {**table, text: ends[text]}, ends), False)
            self.assertIs(self.accepted(book, table, {**ends, "": book.alphabet[0]}), False)
            self.assertIs(self.accepted(book, {**table, "": book.alphabet[0]}, ends), False)
            self.assertIs(self.accepted(book, ends, table), False)

    def test_keys_in_any_order(self):
        for book, (_, table, ends) in WITH_WINDOWS:
            self.assertIs(self.accepted(book, dict(reversed(table.items())), dict(reversed(ends.items()))), True)

    def test_pieces_of_other_kinds(self):
        kind, table, ends = view_paper(ABBA)
        for value in STRANGE + (None, 1, (), ("a",), ["a"], ABBA, "", "c", "abb"):
            self.assertIs(self.accepted(ABBA, {**table, "abba": value}, ends), False)
            self.assertIs(self.accepted(ABBA, table, {**ends, "abb": value}), False)
            self.assertIs(self.accepted(ABBA, value, ends), False)
            self.assertIs(self.accepted(ABBA, table, value), False)

    def test_lists_and_lengths(self):
        paper = view_paper(ABBA)
        kind, table, ends = paper
        wrong = (
            list(paper), paper[:2], paper + (0,), ("Windows", table, ends), ("never", table, ends), paper[1:],
            (kind, list(table.items()), ends), (kind, table, tuple(ends.items())), (kind, tuple(table), tuple(ends)),
            (None, table, ends), (table, kind, ends), (), (kind,), kind, {kind: table}, ("never",) + paper,
        )
        for value in wrong + STRANGE + (1, "", ABBA, HASTY):
            self.assertIs(is_view_paper(ABBA, value), False)


class OwnNever(unittest.TestCase):
    """Papers of texts at whose beginnings no piece is safe, made by the test itself."""

    def accepted(self, book, *rest):
        return is_view_paper(book, ("never", *rest))

    def test_other_texts_of_the_same_endless_one(self):
        for book, (_, u, v, reasons) in WITHOUT:
            for many in (1, 2, 5):
                self.assertIs(self.accepted(book, u + v * many, v, reasons), True)
                self.assertIs(self.accepted(book, u, v * many, reasons), True)
            for end in range(1, len(v)):
                turned = v[end:] + v[:end]
                own = {piece: against(book, u + v[:end], piece) for piece in reasons}
                self.assertIs(self.accepted(book, u + v[:end], turned, own), True)

    def test_beside_losses_in_each_round(self):
        cases = ((ODD, "xaa", "aa"), (ODD, "xaaa", "aa"), (ODD, "xaa", "a"), (EIGHT, "xaa", "aa"), (EIGHT, "xaa", "a"))
        found = []
        texts = all_texts("ax", 2) + ["b", "ab", "xb", "bb"]
        for book, u, v in cases:
            for first in texts:
                for second in texts:
                    if book.accepts(first + second):
                        rounds = [u + v * many for many in range(8)]
                        expected = all(loss(book, text + first, "x") > 0 and loss(book, text + second, "xa") > 0
                                       for text in rounds)
                        found.append(self.accepted(book, u, v, {"x": first, "xa": second}))
                        self.assertIs(found[-1], expected, (book.pieces, u, v, first, second))
        self.assertGreater(found.count(True), 10)

    def test_a_reason_that_holds_for_some_rounds_only(self):
        # By one a more, the other piece is the cheaper one.
        self.assertIs(self.accepted(ODD, "xaa", "aa", {"x": "b", "xa": "ab"}), True)
        self.assertIs(self.accepted(ODD, "xaa", "a", {"x": "b", "xa": "ab"}), False)
        self.assertGreater(loss(ODD, "xaab", "x"), 0)
        self.assertEqual(loss(ODD, "xaaab", "x"), 0)

    def test_reasons(self):
        right = {"x": "b", "xa": "ab"}
        self.assertIs(self.accepted(ODD, "xaa", "aa", dict(reversed(right.items()))), True)
        wrong = (
            {"x": "b"}, {"xa": "ab"}, {}, {**right, "a": ""}, {**right, "xaa": ""}, {"x": "b", "aa": "ab"},
            {"x": "ab", "xa": "b"}, {"x": "b", "xa": None}, {"x": "b", "xa": ("ab",)}, {"x": "b", "xa": ["ab"]},
            {"x": "b", "xa": "c"}, {"x": "b", "xa": 1}, {"x": "b", None: "ab"}, {"x": "b", "xa": "ab" * 4001},
            [("x", "b"), ("xa", "ab")], (("x", "b"), ("xa", "ab")), None, "b", ("b", "ab"), right["x"],
        )
        for reasons in wrong:
            self.assertIs(self.accepted(ODD, "xaa", "aa", reasons), False)

    def test_texts(self):
        right = {"x": "b", "xa": "ab"}
        self.assertIs(self.accepted(ODD, "xaa", "aa", right), True)
        for value in STRANGE + ("", "c", "aac", None, 1, ("aa",), ["aa"], ABBA):
            self.assertIs(self.accepted(ODD, "xaa", value, right), False)
            if value != "":
                self.assertIs(self.accepted(ODD, value, "aa", right), False)

    def test_u_has_as_many_signs_as_each_piece(self):
        # Against both pieces from the first round on, but xa has one sign more than x.
        self.assertIs(self.accepted(ODD, "xa", "aa", {"x": "ab", "xa": "b"}), True)
        self.assertIs(self.accepted(ODD, "x", "aa", {"x": "b", "xa": "ab"}), False)
        self.assertIs(self.accepted(ODD, "x", "aa", {"x": "ab", "xa": "b"}), False)
        self.assertIs(self.accepted(ODD, "x", "aa", {"x": "b"}), False)
        for reasons in ({"x": "b", "xa": "ab"}, {"x": "ab", "xa": "b"}, {}):
            self.assertIs(self.accepted(ODD, "", "xaa", reasons), False)

    def test_long_texts(self):
        right = {"x": "b", "xa": "ab"}
        self.assertIs(self.accepted(ODD, "x" + "a" * 7998, "aa", right), True)
        self.assertIs(self.accepted(ODD, "x" + "a" * 7999, "aa", {"x": "ab", "xa": "b"}), True)
        self.assertIs(self.accepted(ODD, "x" + "a" * 8000, "aa", right), False)
        self.assertIs(self.accepted(ODD, "xaa", "a" * 8000, right), True)
        self.assertIs(self.accepted(ODD, "xaa", "a" * 7999, right), False)
        self.assertIs(self.accepted(ODD, "xaa", "a" * 8002, right), False)
        self.assertIs(self.accepted(ODD, "xaa", "aa", {"x": "a" * 7998 + "b", "xa": "a" * 7999 + "b"}), True)
        self.assertIs(self.accepted(ODD, "xaa", "aa", {"x": "b" + "a" * 8000, "xa": "ab"}), False)

    def test_lists_and_lengths(self):
        paper = ("never", "xaa", "aa", {"x": "b", "xa": "ab"})
        self.assertIs(is_view_paper(ODD, paper), True)
        wrong = (list(paper), paper[:3], paper + (0,), ("Never",) + paper[1:], ("windows",) + paper[1:], paper[1:],
                 (None,) + paper[1:], ("never", "aa", "xaa", paper[3]), ("never", paper[3], "xaa", "aa"), (paper,))
        for value in wrong + STRANGE + (1, "", ODD):
            self.assertIs(is_view_paper(ODD, value), False)


class TheCutter(unittest.TestCase):
    def test_it_is_never_behind(self):
        for book, paper in WITH_WINDOWS:
            cutter = cutter_by(book, paper)
            self.assertEqual([cutter.view, cutter.order, cutter.book], [least_view(book), book.pieces, book])
            self.assertEqual([cutter.table, cutter.ends], [paper[1], paper[2]])
            self.assertTrue(all(cutter.behind(text) == 0 for text in all_texts(book.alphabet, 6)))
            if least_view(book) < 9:
                self.assertEqual(excess_paper(cutter)[:2], ("bound", 0))

    def test_a_great_least_view(self):
        cutter = cutter_by(DEEP, view_paper(DEEP))
        self.assertEqual([cutter.view, len(cutter.table), len(cutter.ends)], [397, 400, 398])
        for text in ("bba" * 300, "bbaa" * 200, "aab" * 300 + "bba" * 200, "b" * 8000, "abba" * 500):
            self.assertEqual(cutter.behind(text), 0)
        fewer, longest = cutter.with_view(396), max(cutter.table, key=len)
        self.assertTrue(any(fewer.behind(longest + end) for end in all_texts("ab", 4)))

    def test_one_sign_less_is_not_enough(self):
        tried = 0
        for book, paper in WITH_WINDOWS:
            if 1 < least_view(book) < 9:
                fewer = cutter_by(book, paper).with_view(least_view(book) - 1)
                others = [fewer, fewer.with_table(None, None), fewer.with_order(book.pieces[::-1])]
                self.assertFalse(any(is_never_behind(cutter) for cutter in others))
                tried += 1
        self.assertGreater(tried, 5)

    def test_if_no_view_is_enough(self):
        for book, _ in WITHOUT:
            for view in (1, 3, 5):
                for cutter in (Cutter.longest_first(book), Cutter.shortest_first(book), Cutter(book, book.pieces)):
                    self.assertIs(is_never_behind(cutter.with_view(view)), False)

    def test_a_view_of_one_sign(self):
        cutter = cutter_by(TWO, view_paper(TWO))
        self.assertEqual([cutter.view, cutter.table, cutter.ends], [1, {"a": "a", "b": "b"}, {}])

    def test_values_that_are_no_papers_of_windows(self):
        other = view_paper(NINE)
        wrong = (None, (), 1, view_paper(ABBA)[:2], list(view_paper(ABBA)), other, view_paper(ODD), "windows", ABBA)
        for value in wrong + STRANGE:
            with self.assertRaises(InvalidOperation):
                cutter_by(ABBA, value)
        for value in (view_paper(ODD), view_paper(EIGHT), view_paper(ABBA), None):
            with self.assertRaises(InvalidOperation):
                cutter_by(ODD, value)

    def test_what_is_passed_changed_afterwards(self):
        kind, table, ends = view_paper(ABBA)
        cutter = cutter_by(ABBA, (kind, table, ends))
        table.clear()
        ends.clear()
        self.assertEqual(cutter, cutter_by(ABBA, view_paper(ABBA)))


class Refused(unittest.TestCase):
    def test_books(self):
        for value in NO_BOOKS:
            for function in FUNCTIONS:
                with self.assertRaises(InvalidBook):
                    function(value)
            for other in (None, view_paper(ABBA)):
                with self.assertRaises(InvalidBook):
                    is_view_paper(value, other)
                with self.assertRaises(InvalidBook):
                    cutter_by(value, other)


class Limits(unittest.TestCase):
    def refuse(self, book):
        calls = [lambda function=function: function(book) for function in FUNCTIONS]
        for value in (None, ("windows", {}, {}), ("never", "a", "a", {"a": ""}), view_paper(ABBA)):
            calls.append(lambda value=value: is_view_paper(book, value))
            calls.append(lambda value=value: cutter_by(book, value))
        for call in calls:
            with self.assertRaises(TooMany) as caught:
                call()
            self.assertEqual(caught.exception.limit, 2000)

    def test_more_than_2000_besides_of_a_piece(self):
        for book in (WITH_2001, RICH):
            self.refuse(book)

    def test_more_than_2000_windows_or_fans(self):
        for book in (WIDE, FANNED):
            self.refuse(book)
            # No piece has too many besides.
            self.assertEqual([safe_pieces(book, piece)[:0] for piece in book], [()] * len(book))

    def test_at_the_limits(self):
        found = view_paper(DEEP)
        self.assertEqual([len(found[1]), len(found[2])], [400, 398])
        for name, many in (("MAX_MINIMAL", 400), ("MAX_FANS", 399)):
            with mock.patch.object(module, name, many):
                self.assertEqual(view_paper(Book(DEEP.prices)), found)
            with mock.patch.object(module, name, many - 1), self.assertRaises(TooMany):
                view_paper(Book(DEEP.prices))

    def test_books_come_first(self):
        with self.assertRaises(InvalidBook):
            cutter_by(None, view_paper(ABBA))
        with self.assertRaises(TooMany):
            cutter_by(RICH, None)
