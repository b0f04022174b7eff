"""How far a cutter falls behind, for all texts: stage 8."""

import unittest

from cutbehind.base.books import Book
from cutbehind.bounds.excess import excess_paper, greatest_excess, is_excess_paper, is_never_behind, worst_text
from cutbehind.cuts.cutters import Cutter
from cutbehind.errors import InvalidCutter, TooMany
from cutbehind.stands.stands import Stands, stand_of
from tests.samples import ABBA, EARLY, EIGHT, HASTY, LONGEST_EIGHT, LONGEST_NINE, NINE, NO_CUTTERS, ODD, SEEING, STRANGE
from tests.samples import all_texts, greatest_numbers, small_cutters

FUNCTIONS = (excess_paper, greatest_excess, is_never_behind, worst_text)
SHORTEST = [Cutter.shortest_first(book) for book in (ABBA, ODD, EIGHT, NINE)]
LONGEST = [HASTY, Cutter.longest_first(ODD), LONGEST_EIGHT, LONGEST_NINE]
EVERY = small_cutters() + SHORTEST + LONGEST + [SEEING, EARLY, HASTY.with_view(1), HASTY.with_view(4)]
BOUNDED = [LONGEST_EIGHT, LONGEST_NINE, SEEING, EARLY]


class Examples(unittest.TestCase):
    def test_the_document(self):
        self.assertEqual(
            [greatest_excess(HASTY), greatest_excess(LONGEST_EIGHT), greatest_excess(LONGEST_NINE),
             is_never_behind(SEEING)],
            [None, 8, 7, True],
        )
        self.assertEqual(
            [is_excess_paper(HASTY, ("ring", "abbabba", "bba")), is_excess_paper(HASTY, ("ring", "a", "bba")),
             excess_paper(SEEING)[:2]],
            [True, False, ("bound", 0)],
        )

    def test_all_four_books(self):
        self.assertEqual([greatest_excess(cutter) for cutter in LONGEST], [None, None, 8, 7])
        self.assertEqual([greatest_excess(cutter) for cutter in SHORTEST], [None] * 4)
        self.assertEqual([is_never_behind(cutter) for cutter in LONGEST + SHORTEST], [False] * 8)


class Papers(unittest.TestCase):
    def check_ring(self, cutter, u, v):
        self.assertTrue(v)
        self.assertEqual(stand_of(cutter, u), stand_of(cutter, u + v))
        amounts = [cutter.behind(u + v * many) for many in range(5)]
        grown = {later - earlier for earlier, later in zip(amounts, amounts[1:])}
        self.assertEqual(len(grown), 1)
        self.assertGreater(min(grown), 0)
        self.assertEqual([greatest_excess(cutter), worst_text(cutter), is_never_behind(cutter)], [None, None, False])

    def check_bound(self, cutter, number, text, numbers):
        self.assertEqual(list(numbers), list(Stands(cutter).rows))
        self.assertEqual(cutter.behind(text), number)
        self.assertTrue(all(cutter.behind(other) <= number for other in all_texts(cutter.book.alphabet, 7)))
        self.assertEqual(greatest_excess(cutter), number)
        self.assertEqual(cutter.behind(worst_text(cutter)), number)
        self.assertIs(is_never_behind(cutter), number == 0)

    def test_just_one_kind_exists(self):
        kinds = []
        for cutter in EVERY:
            paper = excess_paper(cutter)
            self.assertIs(is_excess_paper(cutter, paper), True)
            self.assertEqual(excess_paper(cutter), paper)
            kinds.append(paper[0])
            (self.check_ring if paper[0] == "ring" else self.check_bound)(cutter, *paper[1:])
        self.assertGreater(min(kinds.count("ring"), kinds.count("bound")), 8)

    def test_no_ring_where_there_is_a_bound(self):
        for cutter in EVERY:
            if excess_paper(cutter)[0] == "bound":
                texts = all_texts(cutter.book.alphabet, 4)
                self.assertFalse(any(is_excess_paper(cutter, ("ring", u, v)) for u in texts[:5] for v in texts))

    def test_no_bound_where_there_is_a_ring(self):
        for cutter in LONGEST[:2] + SHORTEST:
            for number in (0, 1, 10 ** 59):
                for worth in (0, -(10 ** 59)):
                    numbers = {stand: worth for stand in Stands(cutter)}
                    self.assertIs(is_excess_paper(cutter, ("bound", number, "", numbers)), False)

    def test_a_book_with_one_stand(self):
        cutter = Cutter.longest_first(Book({"a": 5, "b": 2}))
        paper = ("bound", 0, "", {(("", ()), ""): 0})
        self.assertEqual([excess_paper(cutter)[1], excess_paper(cutter)[3]], [0, paper[3]])
        for text in ("", "a", "bab"):
            self.assertIs(is_excess_paper(cutter, ("bound", 0, text, paper[3])), True)
        self.assertIs(is_excess_paper(cutter, ("bound", 0, "", {(("", ()), ""): 1})), False)
        self.assertIs(is_excess_paper(cutter, ("bound", 0, "", {(("", ()), ""): -1})), False)
        self.assertIs(is_excess_paper(cutter, ("ring", "", "a")), False)

    def test_what_was_told_changed_afterwards(self):
        paper = excess_paper(LONGEST_NINE)
        paper[3].clear()
        self.assertEqual(len(excess_paper(LONGEST_NINE)[3]), len(Stands(LONGEST_NINE)))

    def test_long_views(self):
        two = Book({"a": 1, "aa": 1})
        self.assertEqual(greatest_excess(Cutter(two, ("aa", "a"), view=1990)), 0)
        self.assertEqual(excess_paper(Cutter(two, ("a", "aa"), view=1990))[0], "ring")


class OwnBounds(unittest.TestCase):
    """Bound papers made by the test itself."""

    def accepted(self, cutter, *rest):
        return is_excess_paper(cutter, ("bound", *rest))

    def test_greater_integers_than_needed(self):
        differing = []
        for cutter in BOUNDED:
            _, number, text, least = excess_paper(cutter)
            most = greatest_numbers(cutter, list(Stands(cutter)), 1, 1, number)
            differing.append(most != least)
            self.assertIs(self.accepted(cutter, number, text, most), True)
            for stand in least:
                self.assertIs(self.accepted(cutter, number, text, {**most, stand: most[stand] + 1}), False)
                self.assertIs(self.accepted(cutter, number, text, {**least, stand: least[stand] - 1}), False)
        self.assertIn(True, differing)

    def test_keys_in_any_order(self):
        for cutter in BOUNDED:
            kind, number, text, numbers = excess_paper(cutter)
            turned = {stand: numbers[stand] for stand in reversed(list(numbers))}
            self.assertIs(self.accepted(cutter, number, text, turned), True)
            self.assertEqual(list(turned), list(numbers)[::-1])

    def test_other_texts(self):
        _, number, _, numbers = excess_paper(LONGEST_NINE)
        behind = [LONGEST_NINE.behind("a" * many) for many in (4, 7, 7999, 8000)]
        self.assertEqual([number, behind], [7, [7, 7, 7, 0]])
        for text in ("aaaa", "a" * 7, "a" * 7999):
            self.assertIs(self.accepted(LONGEST_NINE, 7, text, numbers), True)
        for text in ("aaa", "", "a" * 8000, "a" * 8002, "b", None, ("aaaa",), ["a"], "A", {}, 4):
            self.assertIs(self.accepted(LONGEST_NINE, 7, text, numbers), False, text)

    def test_other_numbers(self):
        for cutter in BOUNDED:
            _, number, text, numbers = excess_paper(cutter)
            wrong = (number - 1, number + 1, None, str(number), (number,), 10 ** 60, -number - 1, ABBA, True, False)
            for other in wrong:
                self.assertIs(self.accepted(cutter, other, text, numbers), False)
        # False and True are no integers, though they equal 0 and 1.
        _, number, text, numbers = excess_paper(SEEING)
        self.assertEqual(number, 0)
        self.assertIs(self.accepted(SEEING, False, text, numbers), False)

    def test_keys(self):
        for cutter in BOUNDED:
            _, number, text, numbers = excess_paper(cutter)
            for stand in numbers:
                fewer = {other: numbers[other] for other in numbers if other != stand}
                self.assertIs(self.accepted(cutter, number, text, fewer), False)
                for strange in (None, 1, "a", (("a", (50,)), ""), (stand,), stand[0], ((stand[0][0], ()), "zz")):
                    self.assertIs(self.accepted(cutter, number, text, {**numbers, strange: -99}), False)
                    self.assertIs(self.accepted(cutter, number, text, {**fewer, strange: -99}), False)

    def test_true_in_a_key(self):
        _, number, text, numbers = excess_paper(SEEING)
        changed = 0
        for stand in numbers:
            (signs, differences), waiting = stand
            for place, worth in enumerate(differences):
                if worth in (0, 1):
                    other = ((signs, differences[:place] + (bool(worth),) + differences[place + 1:]), waiting)
                    keys = {(other if key == stand else key): numbers[key] for key in numbers}
                    self.assertEqual(keys, numbers)
                    self.assertIs(self.accepted(SEEING, number, text, keys), False)
                    changed += 1
        self.assertGreater(changed, 3)

    def test_integers(self):
        for cutter in BOUNDED:
            _, number, text, numbers = excess_paper(cutter)
            for stand, worth in list(numbers.items())[::3]:
                for strange in (None, str(worth), (worth,), [worth], float(worth), ABBA, 10 ** 60, -(10 ** 60)):
                    self.assertIs(self.accepted(cutter, number, text, {**numbers, stand: strange}), False)
                if worth in (0, 1):
                    self.assertIs(self.accepted(cutter, number, text, {**numbers, stand: bool(worth)}), False)

    def test_sixty_digits(self):
        _, number, text, numbers = excess_paper(LONGEST_NINE)
        for worth in (10 ** 60 - 1, -(10 ** 60 - 1)):
            self.assertIs(self.accepted(LONGEST_NINE, number, text, {stand: worth for stand in numbers}), False)

    def test_lists_and_lengths(self):
        for cutter in BOUNDED:
            paper = excess_paper(cutter)
            kind, number, text, numbers = paper
            wrong = (
                list(paper), paper[:3], paper + (0,), ("Bound",) + paper[1:], ("ring",) + paper[1:],
                (None,) + paper[1:],
                ("bound", number, text, list(numbers.items())), ("bound", number, text, tuple(numbers.items())),
                ("bound", number, text, None), ("bound", number, text, {}), ("bound", text, number, numbers),
                ("bound", number, numbers, text), (numbers, number, text, "bound"), (), ("bound",),
            )
            for value in wrong:
                self.assertIs(is_excess_paper(cutter, value), False)


class OwnRings(unittest.TestCase):
    """Ring papers made by the test itself."""

    def accepted(self, u, v, cutter=HASTY):
        return is_excess_paper(cutter, ("ring", u, v))

    def test_a_ring_said_several_times(self):
        for cutter in LONGEST[:2] + SHORTEST:
            kind, u, v = excess_paper(cutter)
            for many in (1, 2, 5):
                self.assertIs(self.accepted(u, v * many, cutter), True)
                self.assertIs(self.accepted(u + v * many, v, cutter), True)
                for part in range(len(v)):
                    self.assertIs(self.accepted(u + v[:part], v[part:] + v[:part], cutter), True)

    def test_long_ones(self):
        u, v = "abbabba" + "bba" * 2664, "bba" * 2666
        self.assertEqual([len(u), len(v)], [7999, 7998])
        self.assertIs(self.accepted(u, v), True)
        self.assertIs(self.accepted(u + "bba", "bba"), False)
        self.assertIs(self.accepted("abbabba", "bba" * 2667), False)

    def test_beside_what_is_told(self):
        texts = all_texts("ab", 4)
        found = 0
        for u in texts:
            for v in texts:
                grown = [HASTY.behind(u + v * many) for many in range(4)]
                expected = v != "" and stand_of(HASTY, u) == stand_of(HASTY, u + v) and grown[1] > grown[0]
                self.assertIs(self.accepted(u, v), expected, (u, v))
                if expected:
                    gains = [later - earlier for earlier, later in zip(grown, grown[1:])]
                    self.assertEqual(gains, gains[:1] * 3)
                    found += 1
        self.assertGreater(found, 2)

    def test_wrong_ones(self):
        self.assertIs(self.accepted("abbabba", "bba"), True)
        self.assertIs(self.accepted("abbabba", ""), False)
        self.assertIs(self.accepted("", ""), False)
        # The same stand, but nothing is lost.
        self.assertIs(self.accepted("bbabba", "bba"), False)
        self.assertEqual(stand_of(HASTY, "bbabba"), stand_of(HASTY, "bbabbabba"))
        # Ever further behind, but another stand.
        self.assertIs(self.accepted("a", "bba"), False)
        for value in STRANGE + (None, 1, (), ["bba"], ("bba",), "c", "abc", ABBA):
            self.assertIs(self.accepted(value, "bba"), False)
            self.assertIs(self.accepted("abbabba", value), False)

    def test_lists_and_lengths(self):
        ring = ("ring", "abbabba", "bba")
        wrong = (
            list(ring), ring[:2], ring + ("bba",), ("Ring",) + ring[1:], ("bound",) + ring[1:], ring[1:], (ring,),
            ring[::-1], ("ring", ("abbabba", "bba")), ("ring", "bba", "abbabba"), "ring",
        )
        for value in wrong:
            self.assertIs(is_excess_paper(HASTY, value), False)

    def test_every_other_value(self):
        for cutter in (HASTY, LONGEST_NINE, SEEING):
            for value in STRANGE + (1, "", (), ABBA, HASTY, {"ring"}, Stands(HASTY)):
                self.assertIs(is_excess_paper(cutter, value), False)


class Refused(unittest.TestCase):
    def test_cutters(self):
        for value in NO_CUTTERS:
            for function in FUNCTIONS:
                with self.assertRaises(InvalidCutter):
                    function(value)
            for other in (None, ("ring", "abbabba", "bba")):
                with self.assertRaises(InvalidCutter):
                    is_excess_paper(value, other)

    def test_more_than_2000_stands(self):
        for cutter in (HASTY.with_view(12), Cutter(Book({"a": 1, "aa": 1}), ("a", "aa"), view=2000)):
            for function in FUNCTIONS:
                with self.assertRaises(TooMany) as caught:
                    function(cutter)
                self.assertEqual(caught.exception.limit, 2000)
            for value in STRANGE + (("ring", "", "a"), ("ring", "a" * 2000, "a"), ("bound", 0, "", {})):
                with self.assertRaises(TooMany):
                    is_excess_paper(cutter, value)
