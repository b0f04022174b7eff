"""Stands, beside a plain reading of the text: stage 7."""

import unittest

from cutbehind.base.books import Book
from cutbehind.cuts.cuts import cheapest_price, price_of
from cutbehind.cuts.cutters import Cutter
from cutbehind.errors import InvalidCutter, InvalidStand, InvalidText, TooMany
from cutbehind.fronts.fronts import front_of, next_front
from cutbehind.stands import stands as module
from cutbehind.stands.stands import Stands, behind_along, end_price, next_stand, spent, stand_of
from tests.samples import ABBA, EIGHT, HASTY, LONGEST_NINE, NINE, NO_CUTTERS, NO_TEXTS, ODD, SEEING, STRANGE
from tests.samples import all_texts, beginnings, small_cutters

ONE = Book({"a": 1})
TWO = Book({"a": 1, "aa": 1})
SAMPLES = [
    HASTY, SEEING, LONGEST_NINE, Cutter.shortest_first(NINE), Cutter.longest_first(EIGHT), Cutter.longest_first(ODD),
    HASTY.with_view(1), HASTY.with_view(5), Cutter.longest_first(Book({"a": 2, "b": 3})),
    HASTY.with_table({"ab": "a"}, {"b": "b", "ab": "ab"}),
]
FRONT = ("a", (-1,))
# Of the form of a stand of HASTY in all but one place.
NO_STANDS = (
    (FRONT, "abb"), (FRONT, "c"), (FRONT, None), (FRONT, ("a",)), (FRONT, ["a"]), (FRONT,), (FRONT, "a", ""), FRONT,
    [FRONT, "a"], (("a", (True,)), "a"), (("a", [-1]), "a"), (["a", (-1,)], "a"), (("aba", (0, 0, 0)), "a"),
    (("a", ()), "a"), (("a", (10 ** 60,)), "a"), ("a", FRONT), (None, "a"), ("", ""), ((), ()), (FRONT, 0),
    (FRONT, "A"), (FRONT, HASTY), {FRONT: "a"}, (("c", (0,)), "a"), HASTY, ABBA,
)


def plain_reading(cutter, text):
    """The pieces that are told for a text that may go on, and the signs that wait."""
    pieces = []
    while len(text) >= cutter.view:
        pieces.append(cutter.tell(text[:cutter.view]))
        text = text[len(pieces[-1]):]
    return tuple(pieces), text


def plain_end(cutter, waiting):
    """The price of what is told for waiting signs when the text ends."""
    price = 0
    while waiting:
        piece = cutter.tell(waiting, ended=True)
        price += cutter.book[piece]
        waiting = waiting[len(piece):]
    return price


def plain_search(cutter):
    """A dict from each stand to the number of signs of its shortest texts, by trying all texts of each length."""
    found = {}
    texts, many = [""], 0
    while texts:
        stands = {}
        for text in texts:
            stand = (front_of(cutter.book, text), plain_reading(cutter, text)[1])
            if stand not in found:
                stands.setdefault(stand, text)
        found.update(dict.fromkeys(stands, many))
        texts = [text + sign for text in stands.values() for sign in cutter.book.alphabet]
        many += 1
    return found


class Examples(unittest.TestCase):
    def test_the_document(self):
        self.assertEqual(
            [stand_of(HASTY, "abba"), spent(HASTY, "abba"), end_price(HASTY, stand_of(HASTY, "abba"))],
            [(("ba", (0, -1)), "ba"), (1, 2), 2],
        )
        self.assertEqual(
            [next_stand(HASTY, stand_of(HASTY, "ab"), "b"), behind_along(HASTY, "abbabba")],
            [((("bb", (-1, -1)), "b"), 1, 1), (0, 0, 0, 0, 1, 0, 0, 2)],
        )

    def test_the_constant(self):
        self.assertEqual(module.MAX_STANDS, 2000)


class BesideAReading(unittest.TestCase):
    def check(self, cutter, text):
        pieces, waiting = plain_reading(cutter, text)
        stand = stand_of(cutter, text)
        self.assertEqual(stand, (front_of(cutter.book, text), waiting))
        told, least = spent(cutter, text)
        self.assertEqual((told, least), (price_of(cutter.book, pieces), cheapest_price(cutter.book, text)))
        self.assertEqual(end_price(cutter, stand), plain_end(cutter, waiting))
        self.assertEqual(told + end_price(cutter, stand), cutter.price(text))
        for sign in cutter.book.alphabet:
            further, price, change = next_stand(cutter, stand, sign)
            self.assertEqual(further, stand_of(cutter, text + sign))
            self.assertEqual(spent(cutter, text + sign), (told + price, least + change))

    def test_small_cutters(self):
        for number, cutter in enumerate(small_cutters()):
            for text in all_texts(cutter.book.alphabet, 5)[number % 4::4]:
                self.check(cutter, text)

    def test_the_samples(self):
        for cutter in SAMPLES:
            for text in all_texts(cutter.book.alphabet, 5)[::3]:
                self.check(cutter, text)

    def test_8000_signs(self):
        text = ("abbabbabaabbbaba" * 500)[:7999]
        for cutter in (HASTY, SEEING, HASTY.with_view(300)):
            self.check(cutter, text)
            with self.assertRaises(InvalidText):
                stand_of(cutter, text + "ab")
            self.assertEqual(stand_of(cutter, text + "a")[1], plain_reading(cutter, text + "a")[1])

    def test_values_of_the_form_that_no_text_has(self):
        fronts = [("", ()), ("a", (5,)), ("ab", (-9, 10 ** 60 - 1)), ("bb", (0, 0)), ("b", (-7,))]
        for cutter in (HASTY, SEEING, HASTY.with_view(1), HASTY.with_table({"ab": "a"}, {"bb": "b", "ab": "a"})):
            for front in fronts:
                for waiting in all_texts("ab", cutter.view - 1):
                    self.assertEqual(end_price(cutter, (front, waiting)), plain_end(cutter, waiting))
                    for sign in "ab":
                        pieces, left = plain_reading(cutter, waiting + sign)
                        expected = next_front(ABBA, front, sign)
                        self.assertEqual(
                            next_stand(cutter, (front, waiting), sign),
                            ((expected[0], left), price_of(ABBA, pieces), expected[1]),
                        )

    def test_at_most_one_piece_is_told(self):
        cutter = HASTY.with_view(5)
        self.assertEqual(next_stand(cutter, (FRONT, "aaaa"), "a")[0][1], "aaaa")
        self.assertEqual(next_stand(cutter, (FRONT, "bbab"), "b")[0][1], "bb")
        self.assertEqual(next_stand(cutter, (FRONT, "bba"), "b")[:2], ((("ab", (0, -1)), "bbab"), 0))


class Along(unittest.TestCase):
    def test_beside_each_beginning(self):
        for cutter in small_cutters() + SAMPLES:
            signs, joined = cutter.book.alphabet, "".join(cutter.book.pieces)
            for text in ("", signs[0], signs[-1], joined * 2, joined[::-1] * 2):
                self.assertEqual(behind_along(cutter, text), tuple(cutter.behind(part) for part in beginnings(text)))

    def test_8000_signs(self):
        text = ("abbabbabaabbbaba" * 500)[:8000]
        table = {"abb": "a", "bbabb": "b", "a" * 30: "a"}
        ends = {"b" * many: "b" for many in range(1, 40, 2)}
        for cutter in (HASTY, SEEING, HASTY.with_view(1), HASTY.with_view(40).with_table(table, ends)):
            amounts = behind_along(cutter, text)
            self.assertEqual(len(amounts), 8001)
            for end in list(range(0, 8001, 797)) + [1, 2, 39, 40, 41, 7999, 8000]:
                self.assertEqual(amounts[end], cutter.behind(text[:end]))

    def test_8000_signs_and_the_longest_view(self):
        cutter = Cutter(TWO, ("a", "aa"), view=2000)
        amounts = behind_along(cutter, "a" * 8000)
        self.assertEqual(amounts, tuple(many // 2 for many in range(8001)))


class Refused(unittest.TestCase):
    def test_cutters(self):
        for value in NO_CUTTERS:
            for call in (stand_of, spent, behind_along, end_price):
                for other in ("", "c", None):
                    with self.assertRaises(InvalidCutter):
                        call(value, other)
            with self.assertRaises(InvalidCutter):
                next_stand(value, None, None)
            with self.assertRaises(InvalidCutter):
                Stands(value)

    def test_texts(self):
        for value in NO_TEXTS:
            for call in (stand_of, spent, behind_along):
                with self.assertRaises(InvalidText):
                    call(HASTY, value)

    def test_stands_and_signs(self):
        for value in STRANGE + NO_STANDS:
            with self.assertRaises(InvalidStand):
                end_price(HASTY, value)
            for sign in ("a", "c", None):
                with self.assertRaises(InvalidStand):
                    next_stand(HASTY, value, sign)
        for sign in STRANGE + ("", "c", "ab", ("a",), ["a"], 1, ABBA):
            with self.assertRaises(InvalidText):
                next_stand(HASTY, (FRONT, "a"), sign)

    def test_waiting_signs_are_fewer_than_the_view(self):
        for view in (1, 2, 5, 2000):
            cutter = HASTY.with_view(view)
            self.assertEqual(end_price(cutter, (FRONT, "a" * (view - 1))), view - 1)
            with self.assertRaises(InvalidStand):
                end_price(cutter, (FRONT, "a" * view))


class Reached(unittest.TestCase):
    def test_beside_a_plain_search(self):
        for cutter in small_cutters()[::3] + SAMPLES:
            stands, expected = Stands(cutter), plain_search(cutter)
            self.assertEqual(stands.rows, tuple(sorted(expected)))
            self.assertEqual([list(stands), len(stands)], [sorted(expected), len(expected)])
            self.assertEqual(stands.first, (("", ()), ""))
            for stand, many in expected.items():
                self.assertIs(stand in stands, True)
                self.assertEqual([stand_of(cutter, stands[stand]), len(stands[stand])], [stand, many])

    def test_all_texts_have_one_of_them(self):
        for cutter in SAMPLES:
            stands = Stands(cutter)
            self.assertTrue(all(stand_of(cutter, text) in stands for text in all_texts(cutter.book.alphabet, 6)))

    def test_values_that_are_not_reached(self):
        stands = Stands(HASTY)
        near = [(front, waiting) for front, _ in stands for waiting in all_texts("ab", 2)]
        near = tuple(value for value in near if value not in stands.rows)
        self.assertGreater(len(near), 20)
        for value in STRANGE + NO_STANDS + near + ((("a", (5,)), "a"), (("a", (-1,)), "")):
            self.assertIs(value in stands, False)
            with self.assertRaises(InvalidStand):
                stands[value]

    def test_true_is_not_one(self):
        stands = Stands(HASTY)
        self.assertIn((("ba", (1, 0)), ""), stands)
        for front in (("ba", (True, 0)), ("ba", (1, False))):
            self.assertIs((front, "") in stands, False)
            with self.assertRaises(InvalidStand):
                stands[(front, "")]

    def test_nothing_can_be_set(self):
        stands = Stands(HASTY)
        for name in ("rows", "first"):
            with self.assertRaises(AttributeError):
                setattr(stands, name, None)

    def test_every_value_can_be_compared(self):
        stands = Stands(HASTY)
        for value in STRANGE + (stands.rows, HASTY, 20):
            self.assertIs(stands == value, False)
            self.assertIs(stands != value, True)

    def test_exactly_2000_and_more(self):
        for cutter in (Cutter(ONE, ("a",), view=2000), Cutter(TWO, ("a", "aa"), view=1999)):
            stands = Stands(cutter)
            self.assertEqual([len(stands), len(set(stands.rows))], [2000, 2000])
            self.assertEqual(sorted(len(stands[stand]) for stand in stands), list(range(2000)))
        for cutter in (Cutter(TWO, ("a", "aa"), view=2000), HASTY.with_view(12), HASTY.with_view(2000)):
            with self.assertRaises(TooMany) as caught:
                Stands(cutter)
            self.assertEqual(caught.exception.limit, 2000)
