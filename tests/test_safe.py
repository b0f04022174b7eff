"""Safe pieces, beside the losses at all continuations up to some length: stage 10."""

import unittest
from itertools import product

from cutbehind.base.books import Book
from cutbehind.cuts.cuts import loss
from cutbehind.errors import InvalidBook, InvalidOperation, InvalidStand, InvalidText, TooMany, UnknownPiece
from cutbehind.fronts.fronts import Fronts, front_of, next_front
from cutbehind.view import safe as module
from cutbehind.view.safe import against, beside_of, is_safe, is_safe_paper, next_beside, safe_paper, safe_pieces
from tests.samples import ABBA, EIGHT, HASTY, NINE, NO_BOOKS, NO_TEXTS, ODD, RICH, STRANGE, WITH_2000, WITH_2001
from tests.samples import all_texts, small_books

BOOKS = [ABBA, ODD, EIGHT, NINE] + [Book(prices) for prices in small_books()[::8]]
WITH_PIECE = (is_safe, against, beside_of, safe_paper)
LIMITED = (is_safe, against, safe_paper)
# Of the form of a beside of ABBA in all but one place.
NO_BESIDES = (
    (("a", (0,)), (0, 0)), (("a", (0,)), (0, 0, -1, -1)), (("a", (0,)), (-1, 0, -1)), (("a", (0,)), (0, -2, -1)),
    (("a", (0,)), (0, 0, 0)), (("", ()), (0, 0, -1)), (("a", (0,)), [0, 0, -1]), (("a", (0,)), (0, True, -1)),
    (("a", (0,)), (False, 0, -1)), (("a", (0,)), (0, None, -1)), (("a", (0,)), (10 ** 60, 0, -1)), (("a", (0,)), ()),
    (("a", (0,)), None), (("a", (0,)),), (("a", (0,)), (0, 0, -1), 0), [("a", (0,)), (0, 0, -1)],
    (["a", (0,)], (0, 0, -1)), (("a", [0]), (0, 0, -1)), (("a", (True,)), (0, 0, -1)), (("a", ()), (0, 0, -1)),
    (("aba", (0, 0, 0)), (0, 0, 0)), (("c", (0,)), (0, 0, -1)), ("a", (0, 0, -1)), (None, (0, 0, -1)), ((), ()),
    (("a", (0,)), (0, 0, -1.0)), (("a", (0,)), "abc"), (("a", (0,)), (0, "0", -1)), (("a", (0,)), (0, 0, (-1,))),
    (("ab", (0, 0)), (0, 10 ** 60, 0)), (("ab", (0, 0)), (0, 0, -(10 ** 60))),
)


def plain_beside(book, text, piece):
    """The beside as [10.2] tells it."""
    losses = []
    for back in range(book.longest):
        shorter = text[:len(text) - back] if back <= len(text) else ""
        losses.append(loss(book, shorter, piece) if len(shorter) >= len(piece) else -1)
    return front_of(book, text), tuple(losses)


def plain_next(book, beside, sign):
    """What [10.3] says."""
    front, losses = beside
    signs, differences = front
    further, change = next_front(book, front, sign)
    found = [book[sign] + losses[0]]
    for piece in book:
        many = len(piece)
        if many >= 2 and (signs + sign).endswith(piece) and losses[many - 1] != -1:
            found.append(book[piece] + differences[many - 2] + losses[many - 1])
    return further, (min(found) - change,) + losses[:-1]


def plain_against(book, text, piece, most):
    """A shortest continuation against the piece among those of at most so many signs, or None."""
    for continuation in all_texts(book.alphabet, most):
        if loss(book, text + continuation, piece) > 0:
            return continuation
    return None


def followed(book, beside):
    """All besides that follow from one, with it."""
    found = [beside]
    for known in found:
        for sign in book.alphabet:
            further = next_beside(book, known, sign)
            if further not in found:
                found.append(further)
    return found


def begun(books, most):
    """Books with texts of at most so many signs and the pieces with which they begin."""
    for book in books:
        for text in all_texts(book.alphabet, most):
            for piece in book.starting(text):
                yield book, text, piece


class Examples(unittest.TestCase):
    def test_the_document(self):
        self.assertEqual(
            [safe_pieces(ABBA, text) for text in ("abb", "abba", "abbb", "bba", "")],
            [(), ("a",), ("ab",), ("bba",), ()],
        )
        self.assertEqual(
            [against(ABBA, "ab", "ab"), against(ABBA, "abb", "ab"), against(ABBA, "abb", "a"),
             against(ABBA, "abba", "a")],
            ["ba", "a", "", None],
        )
        self.assertEqual(
            [beside_of(ABBA, "ab", "ab"), beside_of(ABBA, "abba", "ab")],
            [(("ab", (0, -1)), (0, -1, -1)), (("ba", (0, -1)), (1, 0, 0))],
        )

    def test_the_constant(self):
        self.assertEqual(module.MAX_BESIDES, 2000)

    def test_odd_and_eight(self):
        # Over ODD, the number of a tells whether x or xa is safe, as soon as b comes.
        for many in range(1, 30):
            text = "x" + "a" * many
            self.assertEqual([safe_pieces(ODD, text), safe_pieces(EIGHT, text)], [(), ()])
            self.assertEqual(safe_pieces(ODD, text + "b"), ("x",) if many % 2 == 1 else ("xa",))


class BesideContinuations(unittest.TestCase):
    def test_a_shortest_one(self):
        kinds = set()
        for book, text, piece in begun(BOOKS[:2] + BOOKS[4:], 4):
            expected = plain_against(book, text, piece, 4)
            found = against(book, text, piece)
            self.assertIs(is_safe(book, text, piece), found is None)
            if expected is None:
                self.assertTrue(found is None or len(found) > 4)
            else:
                self.assertEqual(len(found), len(expected))
            if found is not None:
                self.assertGreater(loss(book, text + found, piece), 0)
            kinds.add(None if found is None else len(found))
        self.assertTrue({None, 0, 1, 2, 3} <= kinds)

    def test_texts_of_one_letter(self):
        for book in (NINE, Book({"a": 3, "aa": 4, "aaaaa": 7}), Book({"a": 2, "aaa": 5, "aaaa": 6}), Book({"a": 1})):
            for many in range(1, 9):
                for piece in book.starting("a" * many):
                    expected = plain_against(book, "a" * many, piece, 40)
                    self.assertEqual(against(book, "a" * many, piece), expected)

    def test_safe_pieces(self):
        for book in BOOKS:
            for text in all_texts(book.alphabet, 5)[::3]:
                expected = tuple(piece for piece in book.starting(text) if against(book, text, piece) is None)
                self.assertEqual(safe_pieces(book, text), expected)
                self.assertEqual([piece for piece in book.starting(text) if is_safe(book, text, piece)], list(expected))

    def test_safe_at_each_longer_text(self):
        for book, text, piece in begun(BOOKS, 3):
            if is_safe(book, text, piece):
                for sign in book.alphabet:
                    self.assertIs(is_safe(book, text + sign, piece), True)

    def test_several_safe_pieces(self):
        book = Book({"a": 1, "aa": 2, "b": 1})
        self.assertEqual([safe_pieces(book, "aa"), safe_pieces(book, "aab")], [("a", "aa"), ("a", "aa")])

    def test_a_piece_of_a_cheapest_cut_need_not_be_safe(self):
        self.assertEqual([loss(ABBA, "abb", "ab"), is_safe(ABBA, "abb", "ab")], [0, False])

    def test_8000_signs(self):
        even, odd = "x" + "a" * 7998, "x" + "a" * 7999
        self.assertEqual([len(against(ODD, even, piece)) for piece in ("x", "xa")], [1, 0])
        self.assertEqual([len(against(ODD, odd, piece)) for piece in ("x", "xa")], [0, 1])
        self.assertGreater(loss(ODD, even + against(ODD, even, "x"), "x"), 0)
        self.assertEqual([safe_pieces(ODD, even), safe_pieces(ODD, even + "b")], [(), ("xa",)])
        self.assertEqual(safe_pieces(ABBA, "ba" * 4000), ("b",))


class Besides(unittest.TestCase):
    def test_beside_the_losses(self):
        for book, text, piece in begun(BOOKS, 5):
            self.assertEqual(beside_of(book, text, piece), plain_beside(book, text, piece))

    def test_from_text_to_text(self):
        for book, text, piece in begun(BOOKS, 4):
            for sign in book.alphabet:
                further = next_beside(book, beside_of(book, text, piece), sign)
                self.assertEqual(further, beside_of(book, text + sign, piece))

    def test_values_of_the_form_that_no_text_has(self):
        for book in (ABBA, ODD, NINE, Book({"a": 4, "b": 1, "abab": 2, "ba": 3})):
            fronts = Fronts(book).rows + (("", ()), ("a", (7,)), ("a" * (book.longest - 1), (-3,) * (book.longest - 1)))
            for front in fronts:
                if len(front[0]) < book.longest:
                    many = len(front[0])
                    for first, rest in product((0, 1, 9), product((-1, 0, 5), repeat=min(many, 2))):
                        losses = (first,) + rest + (3,) * (many - len(rest)) + (-1,) * (book.longest - 1 - many)
                        for sign in book.alphabet:
                            beside = (front, losses)
                            self.assertEqual(next_beside(book, beside, sign), plain_next(book, beside, sign))

    def test_8000_signs(self):
        for book, piece in ((ABBA, "ab"), (ABBA, "a"), (NINE, "aa"), (ODD, "aa")):
            text = (piece + "".join(book.pieces) * 8000)[:8000]
            self.assertEqual(beside_of(book, text, piece), plain_beside(book, text, piece))
            with self.assertRaises(InvalidText):
                beside_of(book, text + "a", piece)

    def test_books_of_pieces_of_one_sign(self):
        book = Book({"a": 3, "b": 4})
        self.assertEqual(beside_of(book, "ab", "a"), (("", ()), (0,)))
        self.assertEqual(next_beside(book, (("", ()), (5,)), "b"), (("", ()), (5,)))
        self.assertEqual(safe_pieces(book, "ab"), ("a",))
        self.assertEqual(safe_paper(book, "ab", "a"), ("safe", ((("", ()), (0,)),)))
        self.assertIs(is_safe_paper(book, "ab", "a", ("safe", ((("", ()), (0,)), (("", ()), (1,))))), False)

    def test_long_integers(self):
        most = 10 ** 60 - 1
        self.assertEqual(
            next_beside(ABBA, (("bb", (most, most)), (most, most, most)), "a"),
            (("ba", (-1, most - 1)), (most, most, most)),
        )

    def test_books_and_forms_and_signs_are_refused(self):
        for value in NO_BOOKS:
            for beside in (None, (("a", (0,)), (0, 0, -1))):
                with self.assertRaises(InvalidBook):
                    next_beside(value, beside, None)
        right = (("a", (0,)), (0, 0, -1))
        self.assertEqual(next_beside(ABBA, right, "a"), plain_next(ABBA, right, "a"))
        for value in STRANGE + NO_BESIDES + (ABBA, HASTY, right[0], right[1], {right[0]: right[1]}):
            for sign in ("a", "c", None):
                with self.assertRaises(InvalidStand):
                    next_beside(ABBA, value, sign)
        for sign in STRANGE + ("", "c", "ab", ("a",), ["a"], 1, ABBA):
            with self.assertRaises(InvalidText):
                next_beside(ABBA, right, sign)


class Papers(unittest.TestCase):
    def test_what_is_told_is_accepted(self):
        kinds = []
        for book, text, piece in begun(BOOKS, 4):
            paper = safe_paper(book, text, piece)
            kinds.append(paper[0])
            self.assertEqual(paper[0], "safe" if is_safe(book, text, piece) else "against")
            self.assertIs(is_safe_paper(book, text, piece, paper), True)
            if paper[0] == "safe":
                besides = followed(book, beside_of(book, text, piece))
                self.assertEqual(paper[1], tuple(sorted(besides)))
            else:
                self.assertEqual(len(paper[1]), len(against(book, text, piece)))
        self.assertGreater(min(kinds.count("safe"), kinds.count("against")), 50)

    def test_all_continuations(self):
        texts = all_texts("ab", 4)
        for text, piece in (("abb", "ab"), ("abb", "a"), ("abba", "a"), ("ab", "ab"), ("bba", "bba"), ("b", "b")):
            for continuation in texts:
                expected = loss(ABBA, text + continuation, piece) > 0
                self.assertIs(is_safe_paper(ABBA, text, piece, ("against", continuation)), expected)

    def test_long_continuations(self):
        for text, longer in (("ab", "ba" + "a" * 7999), ("abba" + "a" * 7996, "b" * 8001)):
            beside = beside_of(ABBA, text, "ab")
            for end, sign in enumerate(longer[:8000], 1):
                beside = plain_next(ABBA, beside, sign)
                if end in (1, 2, 3, 4000, 7999, 8000):
                    value = ("against", longer[:end])
                    self.assertIs(is_safe_paper(ABBA, text, "ab", value), beside[1][0] > 0)
            self.assertIs(is_safe_paper(ABBA, text, "ab", ("against", longer[:8000])), True)
            self.assertIs(is_safe_paper(ABBA, text, "ab", ("against", longer)), False)

    def test_continuations_of_other_kinds(self):
        self.assertIs(is_safe_paper(ABBA, "abb", "ab", ("against", "a")), True)
        for value in STRANGE + (("a",), ["a"], 1, None, "c", "ac", ABBA, ()):
            self.assertIs(is_safe_paper(ABBA, "abb", "ab", ("against", value)), False)
            self.assertIs(is_safe_paper(ABBA, "abba", "a", ("safe", value)), False)

    def test_more_besides_than_needed(self):
        accepted = 0
        for book in BOOKS:
            papers = [(text, piece, safe_paper(book, text, piece)) for _, text, piece in begun([book], 3)]
            papers = [(text, piece, paper[1]) for text, piece, paper in papers if paper[0] == "safe"]
            for text, piece, besides in papers:
                for _, _, others in papers[::3]:
                    more = tuple(sorted(set(besides) | set(others)))
                    self.assertIs(is_safe_paper(book, text, piece, ("safe", more)), True)
                    accepted += more != besides
                    if beside_of(book, text, piece) not in others:
                        self.assertIs(is_safe_paper(book, text, piece, ("safe", others)), False)
        self.assertGreater(accepted, 20)

    def test_besides_that_no_text_has(self):
        book = Book({"a": 1, "b": 1, "ab": 1})
        besides = safe_paper(book, "ab", "ab")[1]
        for strange, expected in (((("a", (9,)), (0, 5)), True), ((("a", (-7,)), (0, 5)), False)):
            self.assertIs(strange[0] in Fronts(book), False)
            closed = all(next_beside(book, strange, sign) in besides for sign in "ab")
            self.assertIs(closed, expected)
            more = tuple(sorted(besides + (strange,)))
            self.assertIs(is_safe_paper(book, "ab", "ab", ("safe", more)), expected)

    def test_one_beside_wrong(self):
        for book, text, piece in ((ABBA, "abba", "a"), (ABBA, "bba", "bba"), (ABBA, "abbb", "ab"), (ODD, "xab", "x")):
            kind, besides = safe_paper(book, text, piece)
            self.assertEqual(kind, "safe")
            self.assertGreater(len(besides), 1)
            for place, beside in enumerate(besides):
                front, losses = beside
                behind = besides[:place], besides[place + 1:]
                inner = (
                    (), (beside, beside), (list(beside),), ((front, list(losses)),), (None,),
                    ((front, (1,) + losses[1:]),), ((front, (False,) + losses[1:]),), ((front, losses + (0,)),),
                    ((front, losses[:-1]),), ((front, (0,) + losses[1:-1] + (10 ** 60,)),),
                )
                for middle in inner:
                    value = ("safe", behind[0] + middle + behind[1])
                    self.assertIs(is_safe_paper(book, text, piece, value), False)
            for other in (besides[::-1], list(besides), {beside: 0 for beside in besides}, (besides,), besides[0], ()):
                self.assertIs(is_safe_paper(book, text, piece, ("safe", other)), False)

    def test_a_beside_with_a_first_loss(self):
        # All of them follow from one another, but the first one has a loss, and so have some that follow.
        besides = tuple(sorted(followed(ABBA, beside_of(ABBA, "abb", "ab"))))
        self.assertTrue(any(beside[1][0] > 0 for beside in besides))
        self.assertIs(is_safe_paper(ABBA, "abb", "ab", ("safe", besides)), False)
        for text, piece in (("abba", "a"), ("bba", "bba")):
            kept = safe_paper(ABBA, text, piece)[1]
            lost = followed(ABBA, beside_of(ABBA, "abba", "ab"))
            self.assertIs(is_safe_paper(ABBA, text, piece, ("safe", tuple(sorted(set(kept) | set(lost))))), False)

    def test_lists_and_lengths(self):
        for text, piece in (("abba", "a"), ("abb", "ab")):
            paper = safe_paper(ABBA, text, piece)
            kind, shown = paper
            turned = {"safe": "against", "against": "safe"}[kind]
            for value in (list(paper), paper[:1], paper + (0,), (turned, shown), (None, shown), ("Safe", shown), shown,
                          (shown, kind), (paper,), kind, (), ("safe",), ("against",), {kind: shown}):
                self.assertIs(is_safe_paper(ABBA, text, piece, value), False)

    def test_every_other_value(self):
        for value in STRANGE + (1, "", ABBA, HASTY, (1, 2), (("safe", ()),), ("safe", None), ("against", None)):
            for text, piece in (("abba", "a"), ("abb", "ab")):
                self.assertIs(is_safe_paper(ABBA, text, piece, value), False)


class Refused(unittest.TestCase):
    def test_books(self):
        for value in NO_BOOKS:
            for function in WITH_PIECE:
                for text, piece in (("ab", "a"), ("c", "a"), (None, None)):
                    with self.assertRaises(InvalidBook):
                        function(value, text, piece)
            with self.assertRaises(InvalidBook):
                safe_pieces(value, None)
            with self.assertRaises(InvalidBook):
                is_safe_paper(value, None, None, None)

    def test_texts(self):
        for value in NO_TEXTS:
            for function in WITH_PIECE:
                for piece in ("a", "c", None):
                    with self.assertRaises(InvalidText):
                        function(ABBA, value, piece)
            with self.assertRaises(InvalidText):
                safe_pieces(ABBA, value)
            with self.assertRaises(InvalidText):
                is_safe_paper(ABBA, value, None, None)

    def test_pieces(self):
        for value in STRANGE + ("", "c", "abb", "bb", (), ("ab",), ["ab"], ABBA):
            for function in WITH_PIECE + (lambda book, text, piece: is_safe_paper(book, text, piece, None),):
                for text in ("abba", ""):
                    with self.assertRaises(UnknownPiece) as caught:
                        function(ABBA, text, value)
                    self.assertIs(caught.exception.piece, value)

    def test_texts_that_do_not_begin_with_the_piece(self):
        for text, piece in (("abba", "b"), ("abba", "bba"), ("", "a"), ("a", "ab"), ("bb", "bba"), ("b", "a")):
            for function in WITH_PIECE + (lambda *values: is_safe_paper(*values, None),):
                with self.assertRaises(InvalidOperation):
                    function(ABBA, text, piece)

    def test_errors_come_before_too_many(self):
        for function in LIMITED:
            with self.assertRaises(InvalidText):
                function(RICH, "x", "a")
            with self.assertRaises(UnknownPiece):
                function(RICH, "aa", "aa")
            with self.assertRaises(InvalidOperation):
                function(RICH, "ab", "c")


class Limits(unittest.TestCase):
    def refuse(self, call):
        with self.assertRaises(TooMany) as caught:
            call()
        self.assertEqual(caught.exception.limit, 2000)

    def test_more_than_2000(self):
        for book, text, piece in ((RICH, "cbaaa", "cbaaa"), (WITH_2001, "c", "c"), (WITH_2001, "abbca", "abbca")):
            for function in LIMITED:
                self.refuse(lambda: function(book, text, piece))
            self.refuse(lambda: safe_pieces(book, text))
            for value in (None, (), ("against", ""), ("safe", ())):
                self.refuse(lambda: is_safe_paper(book, text, piece, value))
            self.assertEqual(beside_of(book, text, piece), plain_beside(book, text, piece))

    def test_whatever_the_text_is(self):
        # The piece has a loss at this text itself, but all texts that begin with it count.
        text = "aab"
        self.assertGreater(loss(WITH_2001, text, "a"), 0)
        for function in LIMITED:
            self.refuse(lambda: function(WITH_2001, text, "a"))

    def test_exactly_2000(self):
        found = {beside_of(WITH_2000, "baaa", "baaa")}
        layer = list(found)
        while layer:
            further = {next_beside(WITH_2000, beside, sign) for beside in layer for sign in "ab"}
            layer = [beside for beside in further - found if 0 in beside[1]]
            found |= set(layer)
        self.assertEqual(len(found), 2000)
        paper = safe_paper(WITH_2000, "baaa", "baaa")
        self.assertIs(is_safe_paper(WITH_2000, "baaa", "baaa", paper), True)
        self.assertEqual(paper[0] == "safe", is_safe(WITH_2000, "baaa", "baaa"))

    def test_a_lost_piece_has_no_besides(self):
        book = Book({**WITH_2001.prices, "cc": 99})
        self.assertGreater(loss(book, "cc", "cc"), 0)
        self.assertEqual([against(book, "cc", "cc"), is_safe(book, "ccab", "cc")], ["", False])
        self.assertEqual(safe_paper(book, "cc", "cc"), ("against", ""))
