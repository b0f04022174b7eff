"""The shell, beside the functions that it asks: stage 18."""

import unittest

from cutbehind.base.books import Book
from cutbehind.bounds.excess import greatest_excess
from cutbehind.bounds.fractions import fraction_paper
from cutbehind.bounds.lengths import worst_by_length
from cutbehind.cuts.cuts import cheapest, cheapest_price
from cutbehind.cuts.cutters import Cutter
from cutbehind.errors import InvalidBook, InvalidCutter, ParseError
from cutbehind.live.shelf import Shelf
from cutbehind.pairs.edits import meets_within, recut
from cutbehind.text.shell import Shell
from cutbehind.text.texts import write_cutter
from cutbehind.view.least import least_view, minimal_windows
from cutbehind.view.safe import safe_pieces
from tests.samples import EARLY, HASTY, LONGEST_EIGHT, LONGEST_NINE, ODD, SEEING, STRANGE, WITH_2001, all_texts

CUTTERS = (HASTY, SEEING, EARLY, LONGEST_EIGHT, LONGEST_NINE, Cutter.longest_first(ODD), HASTY.with_view(5))


def shell_over(cutter):
    return Shell(write_cutter(cutter))


def joined(pieces):
    return " ".join(pieces) or "none"


class Examples(unittest.TestCase):
    def test_the_document(self):
        shell = shell_over(HASTY)
        self.assertEqual(
            [shell("cut abba"), shell("cheapest abba"), shell("behind abba"), shell("safe abba"), shell("excess"),
             shell("fraction"), shell("view")],
            ["ab b a for 3", "a bba for 2", "1", "a", "behind without bound", "2/1 approached", "4"],
        )
        self.assertEqual(
            [shell("put one bbabba"), shell("edit one 0 0 a"), shell("list"), shell("undo"), shell("list"),
             shell("row 4"), shell("meets")],
            ["bba bba for 2", "at 0: bba bba gone, ab b ab b a came", "one abbabba for 5", "done",
             "one bbabba for 2", "0 0 0 0 1", "none"],
        )
        self.assertEqual(
            [shell("cut abc"), shell("drop two"), shell("edit one 0 9"), shell("redo"), shell("safe abb"),
             shell("fly")],
            ["text", "unknown two", "number 9", "done", "none", "what"],
        )

    def test_all_four_books(self):
        cutters = (HASTY, Cutter.longest_first(ODD), LONGEST_EIGHT, LONGEST_NINE)
        found = [[shell_over(cutter)(line) for line in ("excess", "fraction", "view")] for cutter in cutters]
        self.assertEqual(found, [
            ["behind without bound", "2/1 approached", "4"], ["behind without bound", "5/1 reached", "none"],
            ["behind by at most 8", "5/1 reached", "none"], ["behind by at most 7", "11/4 reached", "5"],
        ])


class Commands(unittest.TestCase):
    def test_texts(self):
        for cutter in CUTTERS:
            shell, book = shell_over(cutter), cutter.book
            for text in all_texts(book.alphabet, 3)[1:] + [("".join(book.pieces) * 900)[:5000]]:
                self.assertEqual(shell(f"cut {text}"), f"{' '.join(cutter(text))} for {cutter.price(text)}")
                expected = f"{' '.join(cheapest(book, text))} for {cheapest_price(book, text)}"
                self.assertEqual(shell(f"cheapest {text}"), expected)
                self.assertEqual(shell(f"behind {text}"), str(cutter.behind(text)))
                self.assertEqual(shell(f"safe {text}"), joined(safe_pieces(book, text)))

    def test_whole_cutters(self):
        for cutter in CUTTERS:
            shell, greatest, windows = shell_over(cutter), greatest_excess(cutter), minimal_windows(cutter.book)
            words = {None: "behind without bound", 0: "never behind"}
            self.assertEqual(shell("excess"), words.get(greatest, f"behind by at most {greatest}"))
            kind, (p, q), *_ = fraction_paper(cutter)
            self.assertEqual(shell("fraction"), f"{p}/{q} {kind}")
            self.assertEqual(shell("view"), str(least_view(cutter.book) or "none"))
            self.assertEqual(shell("windows"), "none" if windows is None else "\n".join(windows))
            number = meets_within(cutter)
            self.assertEqual(shell("meets"), "none" if number is None else str(number))
            for many in (0, 1, 9, 400):
                row = worst_by_length(cutter, many)
                self.assertEqual(shell(f"row {many}"), " ".join(map(str, row)))
        seeing = shell_over(SEEING)
        self.assertEqual([seeing("excess"), seeing("fraction")], ["never behind", "1/1 reached"])

    def test_the_shelf(self):
        for cutter in CUTTERS:
            shell, shelf = shell_over(cutter), Shelf(cutter)
            signs = cutter.book.alphabet
            for name, text in (("one", signs[0] * 3), ("two", signs[-1]), ("none", ""), ("one", "".join(signs) * 4)):
                line = f"put {name} {text}" if text else f"put {name}"
                shelf.put(name, text)
                self.assertEqual(shell(line), f"{joined(cutter(text))} for {cutter.price(text)}")
            rows = [f"{name} {text} for {shelf.price(name)}" if text else f"{name} for 0" for name, text in
                    shelf.texts.items()]
            self.assertEqual(shell("list"), "\n".join(rows))
            for place, new in ((0, ""), (1, signs[0]), (1, signs[-1] * 2)):
                index, gone, came = recut(cutter, shelf["one"], place, place + 1, new)
                expected = f"at {index}: {joined(gone)} gone, {joined(came)} came"
                self.assertEqual(shell(f"edit one {place} {place + 1} {new}".rstrip()), expected)
                shelf.edit("one", place, place + 1, new)
                self.assertEqual(shell.shelf(), shelf)
            for line in ("undo", "drop two", "undo", "redo", "undo", "undo"):
                self.assertEqual(shell(line), "done")
                {"undo": shelf.undo, "redo": shelf.redo}.get(line, lambda: shelf.drop("two"))()
                self.assertEqual(shell.shelf(), shelf)

    def test_the_empty_text(self):
        shell = shell_over(HASTY)
        self.assertEqual([shell("list"), shell("put one"), shell("list"), shell("drop one"), shell("list")],
                         ["none", "none for 0", "one for 0", "done", "none"])
        self.assertEqual([shell("put one ab"), shell("edit one 0 2"), shell("edit one 0 0 ab"), shell("edit one 1 1")],
                         ["ab for 1", "at 0: ab gone, none came", "at 0: none gone, ab came",
                          "at 1: none gone, none came"])

    def test_none_as_a_word(self):
        shell = shell_over(Cutter.longest_first(Book({"n": 1, "o": 2, "e": 3, "none": 4})))
        self.assertEqual([shell("cut none"), shell("put none none"), shell("list"), shell("edit none 0 4 none")],
                         ["none for 4", "none for 4", "none none for 4", "at 1: none gone, none came"])
        self.assertEqual([shell("behind none"), shell("drop none"), shell("drop none")], ["0", "done", "unknown none"])
        self.assertEqual([shell_over(HASTY)("cut none"), shell_over(HASTY)("put none")], ["text", "none for 0"])

    def test_run_does_the_same(self):
        one, other = shell_over(HASTY), shell_over(HASTY)
        for line in ("put one abba", "edit one 1 2", "undo", "list", "cut abba", "fly", "row 401", None):
            self.assertEqual(one(line), other.run(line))


class Errors(unittest.TestCase):
    def test_each_in_its_words(self):
        shell = shell_over(HASTY)
        lines = {
            "cut abc": "text", "cheapest c": "text", "behind xyz": "text", "safe c": "text",
            "cut " + "a" * 8001: "text", "put abcdefghi a": "text", "put one c": "text",
            "put one " + "b" * 8001: "text", "put abcdefghi": "text",
            "edit one 0 0 a": "unknown one", "edit one 9 9": "unknown one", "drop abcdefghij": "unknown abcdefghij",
            "row -1": "number -1", "row 401": "number 401", f"row {10 ** 60 - 1}": f"number {10 ** 60 - 1}",
            f"row -{10 ** 60 - 1}": f"number -{10 ** 60 - 1}", "undo": "undo 1", "redo": "undo 1",
        }
        for line, answer in lines.items():
            self.assertEqual(shell(line), answer)
        self.assertEqual([shell("list"), shell("undo")], ["none", "undo 1"])

    def test_errors_of_edits(self):
        shell = shell_over(HASTY)
        shell("put one abba")
        lines = {
            "edit one 5 9 c": "number 5", "edit one 2 1 c": "number 1", "edit one -1 2": "number -1",
            "edit one 0 9": "number 9", "edit one 0 1 c": "text", "edit one 0 0 " + "a" * 7997: "text",
            "edit two 9 9 c": "unknown two", f"edit one {10 ** 59} 1": f"number {10 ** 59}",
        }
        for line, answer in lines.items():
            self.assertEqual(shell(line), answer)
        self.assertEqual([shell("list"), shell("undo"), shell("undo"), shell("list")],
                         ["one abba for 3", "done", "undo 1", "none"])

    def test_too_many(self):
        shell = shell_over(HASTY.with_view(12))
        self.assertEqual([shell("excess"), shell("fraction"), shell("row 3"), shell("row 401"), shell("meets")],
                         ["many 2000", "many 2000", "many 2000", "number 401", "many 121"])
        self.assertEqual([shell("view"), shell("cut abba")], ["4", "ab b a for 3"])
        many = shell_over(Cutter.longest_first(WITH_2001))
        self.assertEqual([many("view"), many("windows"), many("safe abbca"), many("safe abbcac")], ["many 2000"] * 4)
        full = shell_over(HASTY)
        for number in range(50):
            full("put " + "abcdefghij"[number // 10] + "abcdefghij"[number % 10])
        self.assertEqual([full("put zz"), full("put ab a"), full("put zz c")], ["many 50", "a for 1", "text"])


class Lines(unittest.TestCase):
    def test_words_too_many_or_too_few(self):
        shell = shell_over(HASTY)
        shell("put one abba")
        lines = (
            "cut", "cut a b", "cheapest", "cheapest a a", "behind", "behind a 1", "safe", "safe a b", "excess a",
            "excess 1", "fraction a", "view 3", "windows a", "meets a", "row", "row 1 2", "row a", "put", "put one a b",
            "put one 1", "put 1 a", "put 1", "edit", "edit one", "edit one 1", "edit one 1 2 a b", "edit one a 2",
            "edit one 1 a", "edit 1 1 2", "edit one 1 2 3", "edit one 1 2 a 3", "drop", "drop one two", "drop 1",
            "undo 1", "undo a", "redo 1", "redo a", "list a", "list 1", "cut 1", "safe 12", "behind -1",
        )
        for line in lines:
            self.assertEqual(shell(line), "what", line)
        self.assertEqual(shell("list"), "one abba for 3")

    def test_blanks_and_other_signs(self):
        shell = shell_over(HASTY)
        lines = (
            "", " ", "cut  a", " cut a", "cut a ", "cut\ta", "cut a\n", "\ncut a", "cut\na", "Cut a", "CUT a", "cut A",
            "cut aB", "cut a1", "cut a-b", "cut ab.", "put One a", "put one_ a", "excess ", " excess", "list\n", "fly",
            "none", "shelf", "run excess", "cut a;undo", "what", "text", "row 1 ", "row  1", "__init__", "cut(a)",
        )
        for line in lines:
            self.assertEqual(shell(line), "what", line)

    def test_integers(self):
        shell = shell_over(HASTY)
        shell("put one abba")
        wrong = ("+1", "01", "00", "-0", "-01", "1.0", "1_0", "0x1", "1e1", "--1", "-", "+", "1-", "1" * 61,
                 "-" + "1" * 61, "9" * 8000, "0" * 61)
        for word in wrong:
            for line in (f"row {word}", f"edit one {word} 1", f"edit one 0 {word}", f"edit one 0 {word} a"):
                self.assertEqual(shell(line), "what", line)
        self.assertEqual(shell("row " + "1" * 60), "number " + "1" * 60)
        self.assertEqual(shell("row -" + "1" * 60), "number -" + "1" * 60)
        self.assertEqual([shell("row 0"), shell("edit one 0 0")], ["0", "at 3: none gone, none came"])

    def test_values_of_every_other_kind(self):
        shell = shell_over(HASTY)
        for value in STRANGE + (None, 1, ("cut abba",), ["cut abba"], {"cut": "abba"}, HASTY, shell, True):
            self.assertEqual(shell(value), "what")


class Shells(unittest.TestCase):
    def test_the_shelf_is_independent(self):
        shell = shell_over(HASTY)
        shell("put one abba")
        shelf = shell.shelf()
        self.assertEqual([shelf, shelf.undo(many=0), shelf.cutter], [Shelf(HASTY, texts={"one": "abba"}), 0, HASTY])
        shelf.put("two", "a")
        shelf.drop("one")
        self.assertEqual([shell("list"), shell("put three"), shelf.names], ["one abba for 3", "none for 0", ("two",)])
        self.assertEqual([shell("undo"), shell("undo"), shell("undo")], ["done", "done", "undo 1"])
        self.assertEqual(shelf.names, ("two",))

    def test_texts_of_cutters(self):
        for value in (None, 1, [], ("piece a 1",), HASTY, True):
            with self.assertRaises(ParseError) as caught:
                Shell(value)
            self.assertIsNone(caught.exception.line)
        for text, line in (("", 0), ("piece a 1", 1), ("piece a 1\norder a", 2), ("piece a 1\norder a\nview x", 2)):
            with self.assertRaises(ParseError) as caught:
                Shell(text)
            self.assertEqual(caught.exception.line, line)
        with self.assertRaises(InvalidBook):
            Shell("piece ab 1\norder ab\nview 2")
        with self.assertRaises(InvalidCutter):
            Shell("piece a 1\norder a\nview 0")

    def test_two_shells(self):
        one, other = shell_over(HASTY), shell_over(HASTY)
        one("put one abba")
        self.assertEqual([one("list"), other("list")], ["one abba for 3", "none"])
