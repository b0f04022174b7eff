"""Books and cutters as texts: stage 6."""

import unittest

from cutbehind.base.books import Book
from cutbehind.cuts.cutters import Cutter
from cutbehind.errors import CutError, InvalidBook, InvalidCutter, ParseError
from cutbehind.text.texts import read_book, read_cutter, write_book, write_cutter
from tests.samples import ABBA, EIGHT, HASTY, NINE, NO_BOOKS, NO_CUTTERS, ODD, SEEING, STRANGE, small_books
from tests.samples import small_cutters

FULL = Cutter(ABBA, ("ab", "a", "bba", "b"), view=4, table={"abba": "a", "b": "b"}, ends={"abb": "ab", "ab": "a"})
LINES = write_cutter(FULL).split("\n")
NO_STRINGS = tuple(value for value in STRANGE if not isinstance(value, str)) + (0, (), b"a 1", ABBA, HASTY)
# Not integers as str writes them, or longer than sixty digits.
NO_NUMBERS = ("", "+1", "-", "--1", "01", "00", "-0", "-01", "1_0", "1.0", "x", "1x", "0x1", "\u0661", "\u00b2",
              "1" * 61, "-" + "1" * 61, "1" * 5000, "1\r")
NO_WORDS = ("", "A", "aB", "a1", "1", "-", "\u00e9", "a\t", "a\r", "a.")


def first_wrong(lines):
    """The index of the first line of the right form that may not follow those before it."""
    kinds = ["piece", "order", "view", "table", "end"]
    keys = [(kinds.index(line.split(" ")[0]), line.split(" ")[1]) for line in lines]
    for place, (kind, text) in enumerate(keys):
        before = [other for other, _ in keys[:place]]
        needed = [number for number in range(min(kind, 3)) if number not in before]
        later = [other for other in before if other > kind]
        again = kind in before and (kind in (1, 2) or text <= keys[place - 1][1])
        if needed or later or again:
            return place
    return len(lines)


class Read(unittest.TestCase):
    def fails(self, read, text, line):
        with self.assertRaises(ParseError) as caught:
            read(text)
        self.assertEqual(caught.exception.line, line, text)
        self.assertEqual(type(caught.exception.line), type(line))

    def lines_fail(self, lines, line):
        self.fails(read_cutter, "\n".join(lines), line)


class Examples(unittest.TestCase):
    def test_the_document(self):
        self.assertEqual(
            write_cutter(SEEING),
            "piece a 1\npiece ab 1\npiece b 1\npiece bba 1\norder ab a bba b\nview 4\ntable abba a",
        )
        self.assertEqual(
            [read_cutter(write_cutter(HASTY)) == HASTY, write_book(NINE), read_book(write_book(ODD)) == ODD],
            [True, "a 9\naa 2\naaa 2", True],
        )


class Written(unittest.TestCase):
    def test_books(self):
        for prices in small_books()[::3] + [ABBA.prices, ODD.prices, EIGHT.prices, {"z": 99}]:
            book = Book(prices)
            text = write_book(book)
            self.assertEqual(text, "\n".join(f"{piece} {prices[piece]}" for piece in sorted(prices)))
            self.assertTrue(read_book(text) == book)

    def test_cutters(self):
        for cutter in small_cutters() + [FULL, SEEING, HASTY, Cutter.longest_first(ODD).with_view(2000)]:
            text = write_cutter(cutter)
            self.assertTrue(read_cutter(text) == cutter)
            self.assertEqual(write_cutter(read_cutter(text)), text)
            lines = [f"piece {line}" for line in write_book(cutter.book).split("\n")]
            lines += ["order " + " ".join(cutter.order), f"view {cutter.view}"]
            lines += [f"table {text} {cutter.table[text]}" for text in sorted(cutter.table)]
            lines += [f"end {text} {cutter.ends[text]}" for text in sorted(cutter.ends)]
            self.assertEqual(text, "\n".join(lines))

    def test_a_full_one(self):
        self.assertEqual(LINES, [
            "piece a 1", "piece ab 1", "piece b 1", "piece bba 1", "order ab a bba b", "view 4", "table abba a",
            "table b b", "end ab a", "end abb ab",
        ])

    def test_long_texts_in_a_table(self):
        long = "ab" * 1000
        cutter = Cutter(ABBA, ABBA.pieces, view=2000, table={long: "ab"}, ends={long[1:]: "b"})
        self.assertTrue(read_cutter(write_cutter(cutter)) == cutter)

    def test_other_values(self):
        for value in NO_BOOKS:
            with self.assertRaises(InvalidBook):
                write_book(value)
        for value in NO_CUTTERS:
            with self.assertRaises(InvalidCutter):
                write_cutter(value)


class ReadBooks(Read):
    def test_values_that_are_no_strings(self):
        for value in NO_STRINGS:
            self.fails(read_book, value, None)

    def test_lines_that_are_not_of_the_form(self):
        right = ["a 1", "ab 2", "b 3"]
        wrong = ["", " ", "ab", "ab ", " ab 2", "ab  2", "ab 2 ", "ab\t2", "ab 2\t", "ab 2 2", "2 ab", "ab ab", "2 2",
                 "piece ab 2"]
        wrong += [f"ab {word}" for word in NO_NUMBERS] + [f"{word} 2" for word in NO_WORDS]
        for place in range(3):
            for line in wrong:
                lines = right[:place] + [line] + right[place + 1:]
                self.fails(read_book, "\n".join(lines), place)
        for line in wrong:
            self.fails(read_book, line, 0)

    def test_newlines(self):
        self.fails(read_book, "", 0)
        self.fails(read_book, "\n", 0)
        self.fails(read_book, "a 1\n", 1)
        self.fails(read_book, "a 1\n\nb 1", 1)
        self.fails(read_book, "\na 1", 0)
        self.fails(read_book, "a 1\r\nb 1", 0)

    def test_lines_that_may_not_follow(self):
        self.fails(read_book, "b 1\na 1", 1)
        self.fails(read_book, "a 1\na 1", 1)
        self.fails(read_book, "a 1\nab 1\naa 1\nb 1", 2)
        self.fails(read_book, "ab 1\na 1\nb 1", 1)
        self.fails(read_book, "a 1\nb 1\nb x", 2)

    def test_the_first_wrong_line_counts(self):
        self.fails(read_book, "a 1\na 1\nb", 1)
        self.fails(read_book, "a 100\nb 1\nb 1", 2)
        self.fails(read_book, "a\na\na", 0)

    def test_integers(self):
        self.assertEqual(read_book("a 99\nb 10").prices, {"a": 99, "b": 10})
        for number in ("0", "-1", "100", "-99", "1" * 60, "-" + "1" * 60, "9" * 60):
            with self.assertRaises(InvalidBook):
                read_book(f"a {number}")

    def test_what_is_left_to_the_class(self):
        texts = ("ab 1", "a 1\nab 1", "a 1\naaaaaa 1", "a 1\nb 1\nc 1\nd 1\ne 1", "a 1\n" + "a" * 9000 + " 1",
                 "a 1\n" + "\n".join(f"a{sign} 1" for sign in "abcdefghijkl"))
        for text in texts:
            with self.assertRaises(InvalidBook):
                read_book(text)

    def test_each_beginning(self):
        text = write_book(Book({"a": 12, "ab": 3, "b": 45}))
        for end in range(len(text)):
            try:
                self.assertEqual(write_book(read_book(text[:end])), text[:end])
            except ParseError as error:
                self.assertEqual(error.line, text[:end].count("\n"))
            except InvalidBook:
                self.assertEqual(text[:end], "a 12\nab 3")


class ReadCutters(Read):
    def test_values_that_are_no_strings(self):
        for value in NO_STRINGS:
            self.fails(read_cutter, value, None)

    def test_lines_that_are_not_of_the_form(self):
        wrong = {
            0: ["piece a", "piece a 1 1", "piece 1 a", "piece a a", "a 1", "Piece a 1", "piecea 1", "piece",
                "pieces a 1"],
            4: ["order", "order ", "order a 1", "orders a", "order a  b", "order 1", "Order a", "order a B"],
            5: ["view", "view ", "view a", "view 4 4", "views 4", "view 4 a"],
            6: ["table abba", "table abba a a", "table abba 1", "table 1 a", "table", "tables abba a", "table a",
                "abba a"],
            8: ["end ab", "end ab a a", "end ab 1", "end 1 a", "end", "ends ab a", "ab a"],
        }
        wrong[0] += [f"piece a {word}" for word in NO_NUMBERS] + [f"piece {word} 1" for word in NO_WORDS]
        wrong[4] += [f"order ab {word}" for word in NO_WORDS] + [f"order {word} ab" for word in NO_WORDS]
        wrong[5] += [f"view {word}" for word in NO_NUMBERS]
        wrong[6] += [f"table abba {word}" for word in NO_WORDS] + [f"table {word} a" for word in NO_WORDS]
        wrong[8] += [f"end ab {word}" for word in NO_WORDS] + [f"end {word} a" for word in NO_WORDS]
        for place, lines in wrong.items():
            for line in lines + ["", " ", LINES[place] + " ", " " + LINES[place], LINES[place].replace(" ", "  ", 1),
                                 LINES[place].replace(" ", "\t", 1), LINES[place] + "\t", LINES[place] + "\r"]:
                self.lines_fail(LINES[:place] + [line] + LINES[place + 1:], place)

    def test_newlines(self):
        self.fails(read_cutter, "", 0)
        self.fails(read_cutter, "\n".join(LINES) + "\n", len(LINES))
        self.fails(read_cutter, "\n" + "\n".join(LINES), 0)
        for place in range(1, len(LINES)):
            self.lines_fail(LINES[:place] + [""] + LINES[place:], place)

    def test_each_number_of_first_lines(self):
        for many in range(1, len(LINES) + 1):
            if many < 6:
                self.lines_fail(LINES[:many], many)
            else:
                self.assertEqual(write_cutter(read_cutter("\n".join(LINES[:many]))), "\n".join(LINES[:many]))

    def test_doubled_lines(self):
        for place, line in enumerate(LINES):
            self.lines_fail(LINES[:place + 1] + [line] + LINES[place + 1:], place + 1)

    def test_lines_left_out(self):
        for place in range(len(LINES)):
            lines = LINES[:place] + LINES[place + 1:]
            if place in (4, 5):
                self.lines_fail(lines, place)
            elif place < 4:
                with self.assertRaises((InvalidBook, InvalidCutter)):
                    read_cutter("\n".join(lines))
            else:
                self.assertEqual(write_cutter(read_cutter("\n".join(lines))), "\n".join(lines))
        self.lines_fail(LINES[4:], 0)
        self.lines_fail(LINES[:4] + LINES[6:], 4)

    def test_moved_lines(self):
        for here in range(len(LINES)):
            for there in range(len(LINES)):
                if here != there:
                    lines = LINES[:here] + LINES[here + 1:]
                    lines.insert(there, LINES[here])
                    self.lines_fail(lines, first_wrong(lines))

    def test_lines_that_may_not_follow(self):
        self.lines_fail(["order a"] + LINES, 0)
        self.lines_fail(["piece b 1", "piece a 1", "order a b", "view 1"], 1)
        self.lines_fail(["piece a 1", "view 1", "order a"], 1)
        self.lines_fail(["piece a 1", "order a", "table a a", "view 1"], 2)
        self.lines_fail(["piece a 1", "order a", "piece b 1"], 2)
        self.lines_fail(["piece a 1", "order a", "view 2", "end a a", "table a a"], 4)
        self.lines_fail(["piece a 1", "order a", "view 2", "table aa a", "table a a"], 4)
        self.lines_fail(["piece a 1", "order a", "view 3", "end aa a", "end a a"], 4)
        self.lines_fail(["piece a 1", "order a", "view 2", "view 2"], 3)
        self.lines_fail(["piece a 1", "order a", "view 2", "order a"], 3)
        self.lines_fail(["piece a 1", "order a", "view 2", "table a a", "piece b 1"], 4)

    def test_texts_of_a_table_and_of_ends_ascend_by_themselves(self):
        lines = ["piece a 1", "order a", "view 3", "table aa a", "end a a"]
        self.assertEqual(write_cutter(read_cutter("\n".join(lines))), "\n".join(lines))
        lines = ["piece a 1", "order a", "view 3", "end a a", "end aa a"]
        self.assertEqual(write_cutter(read_cutter("\n".join(lines))), "\n".join(lines))

    def test_missing_lines(self):
        self.lines_fail(["piece a 1"], 1)
        self.lines_fail(["piece a 1", "piece b 1"], 2)
        self.lines_fail(["piece a 1", "order a"], 2)
        self.lines_fail(["piece a 100", "order b"], 2)

    def test_what_is_left_to_the_classes(self):
        for lines in (
            ["piece ab 1", "order ab", "view 1"], ["piece a 0", "order a", "view 1"],
            ["piece a 100", "order b", "view 0"], ["piece a " + "9" * 60, "order a", "view 1"],
            ["piece aaaaaa 1", "order a", "view 1"],
        ):
            with self.assertRaises(InvalidBook):
                read_cutter("\n".join(lines))
        for lines in (
            ["piece a 1", "order b", "view 1"], ["piece a 1", "order a a", "view 1"],
            ["piece a 1", "order a", "view 0"], ["piece a 1", "order a", "view -1"],
            ["piece a 1", "order a", "view 2001"], ["piece a 1", "order a", "view " + "9" * 60],
            ["piece a 1", "order a", "view -" + "9" * 60],
            ["piece a 1", "order a", "view 1", "table aa a"], ["piece a 1", "order a", "view 1", "end a a"],
            ["piece a 1", "order a", "view 2", "table b a"], ["piece a 1", "order a", "view 2", "table a b"],
            ["piece a 1", "order aaaaaaa", "view 1"], ["piece a 1", "order a", "view 2", "end a aa"],
        ):
            with self.assertRaises(InvalidCutter):
                read_cutter("\n".join(lines))

    def test_one_sign_changed(self):
        text = "\n".join(LINES)
        for place in range(len(text)):
            for sign in "ab1 \nZ":
                self.same_or_refused(text[:place] + sign + text[place + 1:])
            self.same_or_refused(text[:place] + text[place + 1:])
            self.same_or_refused(text[:place] + text[place] + text[place:])

    def same_or_refused(self, text):
        """The text is refused by one of the errors, or it is the one text of what it gives."""
        try:
            self.assertEqual(write_cutter(read_cutter(text)), text)
        except CutError as error:
            self.assertIn(type(error), (ParseError, InvalidBook, InvalidCutter))

    def test_kinds_as_pieces(self):
        signs = {sign: 1 for sign in "endr"}
        cutter = Cutter.longest_first(Book({**signs, "end": 2}))
        self.assertTrue(read_cutter(write_cutter(cutter)) == cutter)
        cutter = cutter.with_table({"end": "e"}, {"en": "e"})
        self.assertTrue(read_cutter(write_cutter(cutter)) == cutter)
