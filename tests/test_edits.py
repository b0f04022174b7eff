"""Edits, beside the lengths of the pieces and both lists of boundaries: stage 13."""

import unittest

from cutbehind.base.books import Book
from cutbehind.cuts.cutters import Cutter
from cutbehind.errors import InvalidCutter, InvalidNumber, InvalidText, TooMany
from cutbehind.pairs import edits as module
from cutbehind.pairs.edits import boundaries, common_boundary, is_meeting_paper, meeting_paper, meets_within, recut
from tests.samples import ABBA, EARLY, EIGHT, HASTY, LONGEST_EIGHT, LONGEST_NINE, NINE, NO_CUTTERS, NO_TEXTS, ODD
from tests.samples import SEEING, STRANGE, all_texts, small_cutters

SINGLE = Cutter.longest_first(Book({"a": 2, "b": 3}))
# These meet late, but always.
LATE = Cutter(ABBA, ("a", "b", "ab", "bba"), view=3, table={"aba": "ab"})
ENDING = Cutter(Book({"a": 1, "b": 1, "ab": 1, "ba": 1}), ("a", "b", "ab", "ba"), view=3, ends={"ab": "ab", "ba": "ba"})
EVERY = small_cutters() + [HASTY, SEEING, LONGEST_NINE, EARLY, SINGLE, LATE, ENDING, Cutter.shortest_first(ABBA)]
FEW = [cutter for cutter in EVERY if len(cutter.book.alphabet) < 3]
MEETING = [cutter for cutter in FEW if meets_within(cutter) is not None]
APART = [cutter for cutter in FEW if meets_within(cutter) is None]
NO_PLACES = STRANGE + (-5, 5, None, "1", (1,), True, False, 10 ** 40, ABBA)


def plain_boundaries(cutter, text):
    """The positions between the pieces, from the pieces joined."""
    pieces = cutter.pieces_for(text, True)
    return tuple(len("".join(pieces[:many])) for many in range(len(pieces) + 1))


def plain_common(cutter, old, new, rest):
    """The first position behind both that is a boundary in both joined texts."""
    first, second = plain_boundaries(cutter, old + rest), plain_boundaries(cutter, new + rest)
    places = range(len(rest) + 1)
    return [place for place in places if len(old) + place in first and len(new) + place in second][0]


def plain_recut(cutter, text, start, stop, signs):
    """What [13.1] and the text of recut tell, piece by piece."""
    before, after = list(cutter.cut(text)), list(cutter.cut(text[:start] + signs + text[stop:]))
    index = 0
    while before and after and before[0] == after[0]:
        before, after, index = before[1:], after[1:], index + 1
    while before and after and before[-1] == after[-1]:
        before, after = before[:-1], after[:-1]
    return index, tuple(before), tuple(after)


def plain_meets(cutter, most):
    """The greatest of the least common boundaries, with rests of at most so many signs."""
    signs = cutter.book.alphabet
    short = all_texts(signs, cutter.view - 1)
    rests = all_texts(signs, most)
    return max(plain_common(cutter, old, new, rest) for old in short for new in short if old <= new for rest in rests)


class Examples(unittest.TestCase):
    def test_the_document(self):
        self.assertEqual(
            [boundaries(HASTY, "abba"), common_boundary(HASTY, "", "a", "bba"),
             common_boundary(HASTY, "", "a", "bbaba")],
            [(0, 2, 3, 4), 3, 4],
        )
        self.assertEqual(
            [recut(HASTY, "bbabba", 0, 0, "a"), recut(HASTY, "abba", 1, 2, ""), meets_within(HASTY)],
            [(0, ("bba", "bba"), ("ab", "b", "ab", "b", "a")), (1, ("b",), ()), None],
        )
        self.assertEqual(
            [is_meeting_paper(HASTY, ("apart", "", "a", "bba")),
             meets_within(Cutter.longest_first(Book({"a": 2, "b": 3})))],
            [True, 0],
        )

    def test_all_four_books(self):
        cutters = (HASTY, Cutter.longest_first(ODD), LONGEST_EIGHT, LONGEST_NINE)
        self.assertEqual([meets_within(cutter) for cutter in cutters], [None] * 4)
        self.assertEqual([meets_within(Cutter.shortest_first(book)) for book in (ABBA, ODD, EIGHT, NINE)], [0] * 4)

    def test_the_constant(self):
        self.assertEqual(module.MAX_WAITING, 121)


class Boundaries(unittest.TestCase):
    def test_beside_the_pieces(self):
        for cutter in EVERY:
            for text in all_texts(cutter.book.alphabet, 5)[::2]:
                self.assertEqual(boundaries(cutter, text), plain_boundaries(cutter, text))
        self.assertEqual([boundaries(HASTY, ""), boundaries(HASTY, "a")], [(0,), (0, 1)])

    def test_8000_signs(self):
        text = ("abbabba" * 1143)[:8000]
        found = boundaries(HASTY, text)
        self.assertEqual([len(found), found[0], found[-1]], [len(HASTY.cut(text)) + 1, 0, 8000])
        with self.assertRaises(InvalidText):
            boundaries(HASTY, text + "a")

    def test_the_first_part_stays(self):
        # [13.3]: boundaries before an edit move only where the cutter saw it.
        for cutter in FEW[::4]:
            texts = all_texts(cutter.book.alphabet, 5)
            for one in texts[::5]:
                for other in texts[::7]:
                    ends = range(1, min(len(one), len(other)) + 1)
                    same = len([None for end in ends if one[:end] == other[:end]])
                    found = [boundaries(cutter, text) for text in (one, other)]
                    ends = [place for place in found[0] if place > same - cutter.view][:1]
                    if ends and ends[0] <= same:
                        first = [[place for place in places if place <= ends[0]] for places in found]
                        self.assertEqual(first[0], first[1])


class Common(unittest.TestCase):
    def test_beside_both_lists(self):
        for cutter in EVERY[::3] + [HASTY, SEEING, LATE, ENDING]:
            texts = all_texts(cutter.book.alphabet, 4)
            for number, rest in enumerate(texts):
                for old in texts[number % 7::7]:
                    new = texts[(number * 5) % len(texts)]
                    expected = plain_common(cutter, old, new, rest)
                    self.assertEqual(common_boundary(cutter, old, new, rest), expected)
                    self.assertEqual(common_boundary(cutter, new, old, rest), expected)

    def test_more_than_8000_signs_together(self):
        self.assertEqual(common_boundary(SINGLE, "a" * 8000, "b" * 8000, "a" * 8000), 0)
        for old, new, rest in (("bba" * 2666, "a" + "bba" * 2666, "bba" * 2666), ("a" * 8000, "", "bba" * 2000)):
            expected = plain_common(HASTY, old, new, rest)
            self.assertEqual(common_boundary(HASTY, old, new, rest), expected)
        self.assertEqual(common_boundary(HASTY, "bba" * 2666, "a" + "bba" * 2666, "bba" * 2666), 7998)

    def test_the_end_of_the_rest(self):
        for text in all_texts("ab", 3):
            self.assertEqual(common_boundary(HASTY, text, text + "a", ""), 0)
        self.assertEqual(common_boundary(HASTY, "abba", "abba", "bb"), plain_common(HASTY, "abba", "abba", "bb"))

    def test_behind_it_the_pieces_are_the_same(self):
        for cutter in FEW[::5]:
            for old, new, rest in (("a", "", "abaabba"[:7]), ("", "aa", "aababab")):
                if set(rest) <= set(cutter.book.alphabet):
                    place = common_boundary(cutter, old, new, rest)
                    tails = []
                    for start in (old, new):
                        many = boundaries(cutter, start + rest).index(len(start) + place)
                        tails.append(cutter.cut(start + rest)[many:])
                    self.assertEqual(tails[0], tails[1])


class Recut(unittest.TestCase):
    def test_edits_at_every_place(self):
        for cutter in EVERY[::6] + [HASTY, SEEING, LATE, ENDING]:
            signs = cutter.book.alphabet
            for text in ("", signs[0], (signs[-1] + signs[0]) * 3, "".join(cutter.book.pieces)[:7]):
                for start in range(len(text) + 1):
                    for stop in range(start, len(text) + 1):
                        for new in ("", signs[0], text[start:stop], signs[-1] * 3):
                            found = recut(cutter, text, start, stop, new)
                            self.assertEqual(found, plain_recut(cutter, text, start, stop, new))
                            index, gone, came = found
                            before = cutter.cut(text)
                            changed = before[:index] + came + before[index + len(gone):]
                            self.assertEqual(changed, cutter.cut(text[:start] + new + text[stop:]))

    def test_edits_that_change_nothing(self):
        for text in ("", "abba", "bbabba"):
            for place in range(len(text) + 1):
                self.assertEqual(recut(HASTY, text, place, place, ""), (len(HASTY.cut(text)), (), ()))
            self.assertEqual(recut(HASTY, text, 0, len(text), text), (len(HASTY.cut(text)), (), ()))

    def test_an_empty_text_before_and_after(self):
        self.assertEqual(recut(HASTY, "", 0, 0, "abba"), (0, (), ("ab", "b", "a")))
        self.assertEqual(recut(HASTY, "abba", 0, 4, ""), (0, ("ab", "b", "a"), ()))
        self.assertEqual(recut(HASTY, "", 0, 0, ""), (0, (), ()))

    def test_the_beginning_counts_before_the_end(self):
        cutter = Cutter.longest_first(Book({"a": 1}))
        self.assertEqual(recut(cutter, "aaa", 0, 0, "a"), (3, (), ("a",)))
        self.assertEqual(recut(cutter, "aaa", 1, 3, ""), (1, ("a", "a"), ()))

    def test_8000_signs(self):
        text = "a" * 7999
        self.assertEqual(recut(SINGLE, text, 5, 5, "b"), (5, (), ("b",)))
        with self.assertRaises(InvalidText):
            recut(SINGLE, text, 5, 5, "bb")
        self.assertEqual(recut(SINGLE, text + "a", 0, 8000, "b" * 8000)[0], 0)
        with self.assertRaises(InvalidText):
            recut(SINGLE, text + "a", 0, 7999, "b" * 8000)

    def test_errors_in_their_order(self):
        long = "a" * 8000
        cases = (
            (InvalidCutter, (None, None, None, None, None)), (InvalidText, (HASTY, "c", -1, -1, "c")),
            (InvalidNumber, (HASTY, "abba", 5, -1, "c")), (InvalidNumber, (HASTY, "abba", 2, 1, "c")),
            (InvalidText, (HASTY, "abba", 1, 2, "c")), (InvalidText, (HASTY, long, 0, 0, "a")),
            (InvalidNumber, (HASTY, long, 8001, 8001, "a")), (InvalidNumber, (HASTY, long, 0, 8001, "a")),
        )
        for error, values in cases:
            with self.assertRaises(error):
                recut(*values)

    def test_places_are_refused(self):
        for value in NO_PLACES:
            if value != 0 or isinstance(value, bool):
                with self.assertRaises(InvalidNumber) as caught:
                    recut(HASTY, "abba", value, None, None)
                self.assertIs(caught.exception.value, value)
                with self.assertRaises(InvalidNumber) as caught:
                    recut(HASTY, "abba", 1, value, None)
                self.assertIs(caught.exception.value, value)
        for start, stop, wrong in ((5, 5, 5), (3, 2, 2), (4, 5, 5), (-1, 2, -1)):
            with self.assertRaises(InvalidNumber) as caught:
                recut(HASTY, "abba", start, stop, "")
            self.assertEqual(caught.exception.value, wrong)
        self.assertEqual(recut(HASTY, "abba", 4, 4, "a"), (3, (), ("a",)))


class Meets(unittest.TestCase):
    def test_beside_all_texts(self):
        for cutter in FEW:
            if cutter.view < 5:
                most = 6 if len(cutter.book.alphabet) == 2 and cutter.view < 4 else 5
                found, expected = meets_within(cutter), plain_meets(cutter, most)
                if found is not None:
                    self.assertGreaterEqual(found, expected)
                    if len(meeting_paper(cutter)[4]) <= most:
                        self.assertEqual(found, expected)
        self.assertGreater(min(len(MEETING), len(APART)), 8)
        self.assertGreater(len({meets_within(cutter) for cutter in MEETING}), 3)

    def test_the_papers(self):
        for cutter in MEETING:
            kind, number, old, new, rest = meeting_paper(cutter)
            self.assertEqual([kind, number], ["within", meets_within(cutter)])
            self.assertEqual(plain_common(cutter, old, new, rest), number)
        for cutter in APART:
            kind, old, new, v = meeting_paper(cutter)
            self.assertEqual(kind, "apart")
            self.assertTrue(v)
            rounds = v * (40 // len(v))
            first = {place - len(old) for place in boundaries(cutter, old + rounds)}
            second = {place - len(new) for place in boundaries(cutter, new + rounds)}
            self.assertTrue(all(place > len(rounds) - cutter.view or place < 0 for place in first & second))
        for cutter in MEETING + APART:
            self.assertIs(is_meeting_paper(cutter, meeting_paper(cutter)), True)

    def test_ends_count(self):
        # Both meet at once if the text goes on, but a text that ends is cut otherwise.
        self.assertEqual(meets_within(ENDING.with_table(None, None)), 0)
        self.assertEqual(meets_within(ENDING), plain_meets(ENDING, 5))
        self.assertGreater(meets_within(ENDING), 0)

    def test_the_limit(self):
        one, two = Book({"a": 1, "aa": 2}), Book({"a": 1, "b": 1, "ab": 2})
        three, four = Book({"a": 1, "b": 1, "c": 1}), Book({"a": 1, "b": 1, "c": 1, "d": 1, "ad": 5})
        for book, view in ((one, 121), (two, 6), (three, 5), (four, 4)):
            cutter = Cutter.longest_first(book).with_view(view)
            self.assertIs(is_meeting_paper(cutter, meeting_paper(cutter)), True)
            further = cutter.with_view(view + 1)
            for call in (lambda: meets_within(further), lambda: meeting_paper(further)):
                with self.assertRaises(TooMany) as caught:
                    call()
                self.assertEqual(caught.exception.limit, 121)
            for value in STRANGE + (("apart", "", "a", "a"), ("within", 0, "", "", "")):
                with self.assertRaises(TooMany):
                    is_meeting_paper(further, value)
        self.assertEqual(meets_within(Cutter(one, ("a", "aa"), view=121)), 0)
        self.assertIsNone(meets_within(Cutter(one, ("aa", "a"), view=121)))
        with self.assertRaises(TooMany):
            meets_within(HASTY.with_view(2000))


class WithinPapers(unittest.TestCase):
    def test_all_texts(self):
        for cutter in MEETING[::3] + [LATE, ENDING]:
            number = meets_within(cutter)
            texts = all_texts(cutter.book.alphabet, 3)
            for old in texts[::2]:
                for new in texts[::3]:
                    for rest in texts:
                        for other in (number, number + 1, number - 1):
                            expected = other == number == plain_common(cutter, old, new, rest)
                            self.assertIs(is_meeting_paper(cutter, ("within", other, old, new, rest)), expected)

    def test_one_place_wrong(self):
        for cutter in MEETING:
            kind, number, old, new, rest = meeting_paper(cutter)
            for other in (number + 1, -1, None, str(number), (number,), bool(number), float(number), 10 ** 60, ABBA):
                self.assertIs(is_meeting_paper(cutter, (kind, other, old, new, rest)), False)
            for value in (None, 1, ("a",), ["a"], "z", "A", "a" * 8001, ABBA, {}):
                self.assertIs(is_meeting_paper(cutter, (kind, number, value, new, rest)), False)
                self.assertIs(is_meeting_paper(cutter, (kind, number, old, value, rest)), False)
                self.assertIs(is_meeting_paper(cutter, (kind, number, old, new, value)), False)

    def test_no_paper_of_the_other_form(self):
        for cutter in MEETING[::3]:
            texts = all_texts(cutter.book.alphabet, 2)
            for old in texts:
                for new in texts:
                    self.assertFalse(any(is_meeting_paper(cutter, ("apart", old, new, v)) for v in texts))

    def test_long_texts(self):
        self.assertIs(is_meeting_paper(SINGLE, ("within", 0, "a" * 8000, "b" * 8000, "ab" * 4000)), True)
        self.assertIs(is_meeting_paper(SINGLE, ("within", 0, "a" * 8001, "b", "ab")), False)
        self.assertIs(is_meeting_paper(SINGLE, ("within", 0, "a", "b", "ab" * 4001)), False)


class ApartPapers(unittest.TestCase):
    def test_beside_many_rounds(self):
        found = []
        for cutter in [HASTY, LONGEST_NINE] + APART[::5]:
            texts = all_texts(cutter.book.alphabet, 3)
            for old in texts[::2]:
                for new in texts[::3]:
                    for v in texts[1::2]:
                        rounds = v * (60 // len(v))
                        first = {place - len(old) for place in boundaries(cutter, old + rounds)}
                        second = {place - len(new) for place in boundaries(cutter, new + rounds)}
                        met = [place for place in first & second if 0 <= place <= len(rounds) - cutter.view]
                        found.append(is_meeting_paper(cutter, ("apart", old, new, v)))
                        self.assertIs(found[-1], not met, (old, new, v))
        self.assertGreater(min(found.count(True), found.count(False)), 20)

    def test_other_rounds(self):
        for cutter in APART:
            _, old, new, v = meeting_paper(cutter)
            for many in (1, 2, 5):
                self.assertIs(is_meeting_paper(cutter, ("apart", new, old, v * many)), True)
                self.assertIs(is_meeting_paper(cutter, ("apart", old + v * many, new + v * many, v)), True)

    def test_one_place_wrong(self):
        for cutter in APART:
            _, old, new, v = meeting_paper(cutter)
            self.assertIs(is_meeting_paper(cutter, ("apart", old, new, "")), False)
            self.assertIs(is_meeting_paper(cutter, ("apart", old, old, v)), False)
            for value in (None, 1, ("a",), ["a"], "z", "A", "a" * 8001, ABBA, {}):
                self.assertIs(is_meeting_paper(cutter, ("apart", value, new, v)), False)
                self.assertIs(is_meeting_paper(cutter, ("apart", old, value, v)), False)
                self.assertIs(is_meeting_paper(cutter, ("apart", old, new, value)), False)

    def test_a_boundary_before_the_end_of_old_does_not_count(self):
        # Behind ab and b waits the same sign; the next boundary is common.
        self.assertIs(is_meeting_paper(HASTY, ("apart", "ab", "bb", "bba")), False)
        cutter = Cutter(Book({"a": 1, "aa": 1}), ("aa", "a"), view=3)
        self.assertIs(is_meeting_paper(cutter, ("apart", "a", "aa", "a")), True)
        self.assertIs(is_meeting_paper(cutter, ("apart", "a", "aaa", "a")), False)

    def test_long_texts(self):
        self.assertIs(is_meeting_paper(HASTY, ("apart", "", "a", "bba" * 2666)), True)
        self.assertIs(is_meeting_paper(HASTY, ("apart", "bba" * 2666, "a" + "bba" * 2666, "bba" * 2666)), True)
        self.assertIs(is_meeting_paper(HASTY, ("apart", "", "a", "bba" * 2667)), False)
        self.assertIs(is_meeting_paper(HASTY, ("apart", "", "a", "bba" * 2665 + "baaaa")), False)

    def test_lists_and_lengths(self):
        for cutter, paper in ((HASTY, ("apart", "", "a", "bba")), (SINGLE, ("within", 0, "", "a", "b"))):
            self.assertIs(is_meeting_paper(cutter, paper), True)
            other = {"apart": "within", "within": "apart"}[paper[0]]
            wrong = (list(paper), paper[:-1], paper + ("",), (other,) + paper[1:], (None,) + paper[1:], paper[1:],
                     (paper[0].title(),) + paper[1:], (paper,), (), paper[0], {paper[0]: paper[1:]}, paper[::-1])
            for value in wrong + STRANGE + (1, "", ABBA, HASTY):
                self.assertIs(is_meeting_paper(cutter, value), False)


class Refused(unittest.TestCase):
    def test_cutters(self):
        for value in NO_CUTTERS:
            for call in (lambda: boundaries(value, None), lambda: common_boundary(value, None, None, None),
                         lambda: recut(value, None, None, None, None), lambda: meets_within(value),
                         lambda: meeting_paper(value), lambda: is_meeting_paper(value, None),
                         lambda: is_meeting_paper(value, ("apart", "", "a", "bba"))):
                with self.assertRaises(InvalidCutter):
                    call()

    def test_texts(self):
        for value in NO_TEXTS:
            for call in (lambda: boundaries(HASTY, value), lambda: common_boundary(HASTY, value, "a", "b"),
                         lambda: common_boundary(HASTY, "a", value, "b"),
                         lambda: common_boundary(HASTY, "a", "b", value),
                         lambda: recut(HASTY, value, None, None, None), lambda: recut(HASTY, "ab", 1, 1, value)):
                with self.assertRaises(InvalidText):
                    call()
