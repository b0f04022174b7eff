"""Feeders, beside the cut of the whole text and a plain reading by safe pieces: stage 16."""

import unittest

from cutbehind.base.books import Book
from cutbehind.cuts.cuts import cheapest, cheapest_price, is_cut, price_of
from cutbehind.cuts.cutters import Cutter
from cutbehind.errors import InvalidBook, InvalidCutter, InvalidNumber, InvalidOperation, InvalidText, NothingToUndo
from cutbehind.errors import TooMany
from cutbehind.live import feeders as module
from cutbehind.live.feeders import Feeder, SafeFeeder
from cutbehind.view.safe import safe_pieces
from tests.samples import ABBA, EARLY, EIGHT, HASTY, LONGEST_EIGHT, LONGEST_NINE, NINE, NO_BOOKS, NO_CUTTERS, NO_TEXTS
from tests.samples import ODD, RICH, SEEING, STRANGE, WITH_2001, all_texts, small_books, small_cutters

CUTTERS = small_cutters()[::3] + [HASTY, SEEING, EARLY, LONGEST_NINE, LONGEST_EIGHT, HASTY.with_view(1)]
# Over the last one, long texts wait until it is told that ab or a comes first, and then it is told again.
WAITING = Book({"a": 1, "ab": 1, "b": 9, "ba": 1, "bb": 1, "c": 1})
DEEP = Book({"a": 2, "aab": 2, "b": 98, "bba": 99})
BOOKS = [ABBA, ODD, EIGHT, NINE, WAITING, DEEP, Book({"a": 1, "aa": 2, "b": 1})]
BOOKS += [Book(prices) for prices in small_books()[::9]]
NO_COUNTS = tuple(value for value in STRANGE if value not in (0, 100)) + (-1, True, False, None, "1", (1,), 1.0, ABBA)


def parted(text, sizes):
    """The text in parts of these sizes, again and again."""
    parts, place, number = [], 0, 0
    while place < len(text):
        parts.append(text[place:place + sizes[number % len(sizes)]])
        place += sizes[number % len(sizes)]
        number += 1
    return parts


def plain_reading(cutter, text):
    """The pieces that are told for a text that may go on."""
    pieces, place = [], 0
    while len(text) - place >= cutter.view:
        pieces.append(cutter.tell(text[place:place + cutter.view]))
        place += len(pieces[-1])
    return tuple(pieces)


def plain_safe_reading(book, text):
    """The pieces that are told for a text that may go on, sign by sign, by safe_pieces."""
    pieces, waiting = [], ""
    for sign in text:
        waiting += sign
        while safe_pieces(book, waiting):
            pieces.append(max(safe_pieces(book, waiting), key=len))
            waiting = waiting[len(pieces[-1]):]
    return tuple(pieces)


def state(feeder):
    """All that can be asked of a feeder."""
    return (feeder.told, feeder.waiting, feeder.text, feeder.spent, feeder.is_ended, len(feeder), list(feeder),
            bool(feeder), str(feeder), feeder.behind())


class Examples(unittest.TestCase):
    def test_the_document(self):
        feeder, safe = Feeder(HASTY), SafeFeeder(ABBA)
        self.assertEqual(
            [feeder.feed("abb"), feeder.waiting, feeder.behind(), feeder.feed("a"), feeder.end(), feeder.behind()],
            [("ab",), "b", 0, (), ("b", "a"), 1],
        )
        self.assertEqual(
            [safe.feed("abb"), safe.feed("a"), safe.feed("b"), safe.undo(), safe.waiting, safe.end(), list(safe),
             safe.behind()],
            [(), ("a", "bba"), (), 2, "", (), ["a", "bba"], 0],
        )
        with self.assertRaises(InvalidOperation):
            feeder.feed("a")

    def test_all_four_books(self):
        for book in (ABBA, ODD, EIGHT, NINE):
            text = ("".join(book.pieces) * 3)[:17]
            feeder, safe = Feeder(Cutter.longest_first(book)), SafeFeeder(book)
            self.assertEqual(feeder.feed(text) + feeder.end(), Cutter.longest_first(book)(text))
            self.assertEqual(price_of(book, safe.feed(text) + safe.end()), cheapest_price(book, text))

    def test_the_constant(self):
        self.assertEqual(module.MAX_FED, 8000)


class Parts(unittest.TestCase):
    def check(self, cutter, text, parts):
        feeder, told, read = Feeder(cutter), (), ""
        for part in parts:
            now = feeder.feed(part)
            read += part
            told += now
            self.assertEqual(told, plain_reading(cutter, read))
            self.assertEqual([feeder.told, feeder.text], [told, read])
            self.assertEqual(feeder.waiting, read[len("".join(told)):])
            self.assertEqual(feeder.spent, price_of(cutter.book, told))
            ahead = feeder.spent + cheapest_price(cutter.book, feeder.waiting)
            self.assertEqual(feeder.behind(), ahead - cheapest_price(cutter.book, read))
            self.assertEqual([feeder.is_ended, bool(feeder)], [False, True])
        self.assertEqual(told + feeder.end(), cutter.cut(text))
        self.assertEqual([feeder.told, feeder.waiting, feeder.is_ended], [cutter.cut(text), "", True])
        self.assertEqual([feeder.behind(), feeder.spent], [cutter.behind(text), cutter.price(text)])

    def test_beside_the_cut(self):
        for number, cutter in enumerate(CUTTERS):
            for text in all_texts(cutter.book.alphabet, 5)[number % 3::3] + ["".join(cutter.book.pieces) * 2]:
                for parts in ([text], list(text), parted(text, (1, 0, 2)), parted(text, (3, 1))):
                    self.check(cutter, text, parts)

    def test_plus_does_the_same(self):
        feeder = other = Feeder(HASTY)
        feeder += "abb"
        feeder += ""
        self.assertIs(feeder, other)
        self.assertEqual([feeder.told, feeder.waiting, feeder.undo(many=0)], [("ab",), "b", 2])
        for value in NO_TEXTS:
            with self.assertRaises(InvalidText):
                feeder += value
        self.assertIs(feeder, other)

    def test_8000_signs(self):
        text = ("abbabbabaabbbaba" * 500)[:8000]
        for cutter in (HASTY, SEEING, HASTY.with_view(2000)):
            feeder = Feeder(cutter)
            self.assertEqual(feeder.feed(text), plain_reading(cutter, text))
            for call in (lambda: feeder.feed("a"), lambda: feeder.feed(text)):
                with self.assertRaises(TooMany) as caught:
                    call()
                self.assertEqual(caught.exception.limit, 8000)
            self.assertEqual([feeder.feed(""), feeder.text], [(), text])
            feeder.end()
            self.assertEqual(feeder.told, cutter.cut(text))

    def test_8000_signs_one_by_one(self):
        text = ("abbabbabaabbbaba" * 500)[:8000]
        feeder = Feeder(HASTY)
        for sign in text:
            feeder.feed(sign)
        with self.assertRaises(TooMany):
            feeder.feed("b")
        self.assertEqual(feeder.told, plain_reading(HASTY, text))
        self.assertEqual([feeder.undo(many=7999), feeder.text, feeder.undo(), feeder.text], [1, "a", 0, ""])


class Ends(unittest.TestCase):
    def test_what_is_refused_behind_the_end(self):
        for make in (lambda: Feeder(HASTY), lambda: SafeFeeder(ABBA)):
            feeder = make()
            feeder.feed("ab")
            feeder.end()
            before = state(feeder)
            for value in ("", "a", "b" * 8000):
                with self.assertRaises(InvalidOperation):
                    feeder.feed(value)
                with self.assertRaises(InvalidOperation):
                    feeder += value
            with self.assertRaises(InvalidOperation):
                feeder.end()
            for value in NO_TEXTS:
                with self.assertRaises(InvalidText):
                    feeder.feed(value)
            self.assertEqual([state(feeder), feeder.undo()], [before, 1])
            feeder.feed("b" * 7998)
            with self.assertRaises(TooMany):
                feeder.feed("a")

    def test_the_empty_text(self):
        for feeder in (Feeder(HASTY), SafeFeeder(ABBA)):
            string = "feeder with 0 pieces, 0 signs waiting"
            self.assertEqual(state(feeder), ((), "", "", 0, False, 0, [], True, string, 0))
            self.assertEqual([feeder.end(), feeder.told, bool(feeder)], [(), (), False])

    def test_signs_are_refused(self):
        for feeder in (Feeder(HASTY), SafeFeeder(ABBA)):
            feeder.feed("ab")
            before = state(feeder)
            for value in NO_TEXTS:
                with self.assertRaises(InvalidText):
                    feeder.feed(value)
            self.assertEqual([state(feeder), feeder.undo()], [before, 0])


class Undo(unittest.TestCase):
    def walk(self, feeder):
        """Feeds parts and the end, undoing everything from each state on."""
        states = [state(feeder)]
        for part in ("a", "bb", "", "abbab", "b"):
            feeder.feed(part)
            states.append(state(feeder))
        feeder.end()
        states.append(state(feeder))
        for many in range(1, len(states)):
            for size in (1, 2, many):
                twin, left = feeder.twin(), len(states) - 1
                while left >= size:
                    self.assertEqual(twin.undo(many=size), left - size)
                    left -= size
                    self.assertEqual(state(twin), states[left])
        return states

    def test_one_and_several(self):
        for make in (lambda: Feeder(HASTY), lambda: Feeder(SEEING), lambda: SafeFeeder(ABBA), lambda: SafeFeeder(DEEP)):
            self.walk(make())

    def test_going_on_behind_it(self):
        for make in (lambda: Feeder(HASTY), lambda: SafeFeeder(ABBA), lambda: SafeFeeder(DEEP)):
            feeder, other = make(), make()
            for part in ("ab", "b", "a"):
                feeder.feed(part)
            feeder.end()
            self.assertEqual(feeder.undo(many=3), 1)
            for part in ("ab", "bba", "b"):
                other.feed(part)
            feeder.feed("bba")
            feeder += "b"
            self.assertEqual([state(feeder), feeder == other, feeder.undo(many=0)], [state(other), True, 3])

    def test_none_and_too_many(self):
        feeder = Feeder(HASTY)
        self.assertEqual(feeder.undo(many=0), 0)
        for many in (1, 2, 10 ** 59):
            with self.assertRaises(NothingToUndo) as caught:
                feeder.undo(many=many)
            self.assertEqual(caught.exception.many, many)
        feeder.feed("abb")
        feeder.feed("a")
        before = state(feeder)
        with self.assertRaises(NothingToUndo):
            feeder.undo(many=3)
        self.assertEqual([state(feeder), feeder.undo(many=0), feeder.undo(many=2), feeder.text], [before, 2, 0, ""])
        with self.assertRaises(NothingToUndo):
            feeder.undo()

    def test_numbers_are_refused(self):
        feeder = Feeder(HASTY)
        feeder.feed("ab")
        for value in NO_COUNTS:
            with self.assertRaises(InvalidNumber) as caught:
                feeder.undo(many=value)
            self.assertIs(caught.exception.value, value)
        self.assertEqual(feeder.undo(), 0)

    def test_by_keyword_only(self):
        with self.assertRaises(TypeError):
            Feeder(HASTY).undo(0)

    def test_refused_calls_do_not_count(self):
        feeder = Feeder(HASTY)
        feeder.feed("ab")
        for call, error in ((lambda: feeder.feed("c"), InvalidText), (lambda: feeder.feed("a" * 7999), TooMany),
                            (lambda: feeder[9], InvalidNumber), (lambda: feeder.undo(many=2), NothingToUndo)):
            with self.assertRaises(error):
                call()
        self.assertEqual([feeder.undo(many=0), feeder.undo(), feeder.text], [1, 0, ""])


class Failure(Exception):
    pass


class Trials(unittest.TestCase):
    def make(self):
        found = []
        for feeder in (Feeder(HASTY), SafeFeeder(ABBA)):
            feeder.feed("ab")
            feeder.feed("ba")
            found.append(feeder)
        return found

    def test_a_block(self):
        for feeder in self.make():
            before = state(feeder)
            with feeder.trial() as same:
                self.assertIs(same, feeder)
                same.feed("bba")
                same.end()
                self.assertNotEqual(state(feeder), before)
            self.assertEqual([state(feeder), feeder.undo()], [before, 1])

    def test_undo_in_a_block(self):
        for feeder in self.make():
            before = state(feeder)
            with feeder.trial():
                feeder.undo(many=2)
                feeder.feed("bbbbb")
            self.assertEqual([state(feeder), feeder.undo(many=0)], [before, 2])

    def test_an_error(self):
        for feeder in self.make():
            before = state(feeder)
            with self.assertRaises(Failure):
                with feeder.trial():
                    feeder.feed("b")
                    raise Failure
            with self.assertRaises(InvalidText):
                with feeder.trial() as same:
                    same.feed("a")
                    same.feed("c")
            self.assertEqual([state(feeder), feeder.undo(many=0)], [before, 2])

    def test_one_in_another(self):
        for feeder in self.make():
            before = state(feeder)
            with feeder.trial():
                feeder.feed("a")
                middle = state(feeder)
                with feeder.trial():
                    feeder.end()
                self.assertEqual(state(feeder), middle)
                with self.assertRaises(Failure):
                    with feeder.trial():
                        feeder.undo(many=3)
                        raise Failure
                self.assertEqual([state(feeder), feeder.undo(many=0)], [middle, 3])
            self.assertEqual(state(feeder), before)

    def test_the_same_block_again(self):
        for feeder in self.make():
            trial = feeder.trial()
            feeder.feed("b")
            before = state(feeder)
            for part in ("a", "bb"):
                with trial:
                    feeder.feed(part)
                    feeder.end()
                self.assertEqual(state(feeder), before)

    def test_during(self):
        for feeder in self.make():
            before = state(feeder)
            self.assertEqual(feeder.during(lambda same: (same is feeder, same.feed("bba"), same.end(), same.text)),
                             (True,) + feeder.twin().during(lambda same: (same.feed("bba"), same.end(), same.text)))
            self.assertIsNone(feeder.during(lambda same: None))

            def fail(same):
                same.feed("a")
                raise Failure

            with self.assertRaises(Failure):
                feeder.during(fail)
            self.assertEqual(feeder.during(lambda same: same.during(lambda inner: inner.end())), feeder.twin().end())
            self.assertEqual([state(feeder), feeder.undo(many=0)], [before, 2])


class Twins(unittest.TestCase):
    def test_an_independent_copy(self):
        for feeder in (Feeder(HASTY), SafeFeeder(ABBA)):
            feeder.feed("abb")
            feeder.feed("ab")
            twin, before = feeder.twin(), state(feeder)
            self.assertEqual([state(twin), twin == feeder, type(twin)], [before, True, type(feeder)])
            twin.feed("b")
            self.assertEqual([state(feeder), twin == feeder], [before, False])
            self.assertEqual([twin.undo(many=2), feeder.undo(many=2), twin.text, feeder.text], [1, 0, "abb", ""])
            self.assertEqual(feeder.source, twin.source)

    def test_an_ended_one(self):
        feeder = SafeFeeder(NINE)
        feeder.feed("aaaa")
        feeder.end()
        twin = feeder.twin()
        self.assertEqual([state(twin), twin.undo(many=2), feeder.is_ended], [state(feeder), 0, True])


class Values(unittest.TestCase):
    def test_items(self):
        for feeder in (Feeder(HASTY), SafeFeeder(ABBA)):
            feeder.feed("abbabbab")
            told = feeder.told
            self.assertGreater(len(told), 1)
            self.assertEqual([feeder[index] for index in range(len(feeder))], list(told))
            self.assertEqual([list(feeder), tuple(feeder), len(feeder)], [list(told), told, len(told)])
            for value in NO_COUNTS + (len(told), len(told) + 1, -1, -len(told), 10 ** 59):
                with self.assertRaises(InvalidNumber) as caught:
                    feeder[value]
                self.assertIs(caught.exception.value, value)
        with self.assertRaises(InvalidNumber):
            Feeder(HASTY)[0]

    def test_strings(self):
        feeder = Feeder(HASTY)
        feeder.feed("abbabb")
        self.assertEqual(str(feeder), "feeder with 3 pieces, 1 signs waiting")
        safe = SafeFeeder(ABBA)
        safe.feed("abb")
        self.assertEqual(str(safe), "feeder with 0 pieces, 3 signs waiting")

    def test_equal_ones(self):
        feeder, same = Feeder(HASTY), Feeder(Cutter.longest_first(Book(ABBA.prices)))
        feeder.feed("ab")
        feeder.feed("b")
        same.feed("abb")
        self.assertIs(feeder == same, True)
        self.assertIs(feeder != same, False)
        same.end()
        self.assertIs(feeder == same, False)
        same.undo()
        same.feed("a")
        self.assertIs(feeder == same, False)
        others = (Feeder(SEEING), SafeFeeder(ABBA), Feeder(HASTY), HASTY, feeder.told, feeder.text)
        for value in STRANGE + others:
            self.assertIs(feeder == value, False)
            self.assertIs(feeder != value, True)
        self.assertEqual(SafeFeeder(ABBA), SafeFeeder(Book(ABBA.prices)))
        self.assertNotEqual(SafeFeeder(ABBA), SafeFeeder(NINE))
        self.assertNotEqual(SafeFeeder(ABBA), Feeder(HASTY))
        self.assertNotEqual(Feeder(HASTY), SafeFeeder(ABBA))

    def test_sources_and_properties(self):
        feeder, safe = Feeder(HASTY), SafeFeeder(ABBA)
        self.assertEqual([feeder.source, safe.source], [HASTY, ABBA])
        self.assertIsInstance(safe, Feeder)
        for name in ("told", "waiting", "text", "spent", "is_ended", "source"):
            for value in (feeder, safe):
                with self.assertRaises(AttributeError):
                    setattr(value, name, None)

    def test_sources_are_refused(self):
        for value in NO_CUTTERS:
            with self.assertRaises(InvalidCutter):
                Feeder(value)
        for value in NO_BOOKS:
            with self.assertRaises(InvalidBook):
                SafeFeeder(value)
        for book in (WITH_2001, RICH):
            with self.assertRaises(TooMany) as caught:
                SafeFeeder(book)
            self.assertEqual(caught.exception.limit, 2000)


class Safe(unittest.TestCase):
    def test_beside_safe_pieces(self):
        for number, book in enumerate(BOOKS):
            for text in all_texts(book.alphabet, 5)[number % 4::4] + [("".join(book.pieces) * 3)[:20]]:
                feeder, read = SafeFeeder(book), ""
                for part in parted(text, (1, 3, 0, 2)):
                    before = feeder.told
                    now = feeder.feed(part)
                    read += part
                    self.assertEqual(feeder.told, before + now)
                    self.assertEqual([feeder.told, feeder.text], [plain_safe_reading(book, read), read])
                    self.assertEqual([feeder.behind(), feeder.waiting], [0, read[len("".join(feeder.told)):]])
                waiting = feeder.waiting
                self.assertEqual(feeder.end(), cheapest(book, waiting))
                self.assertEqual([feeder.behind(), feeder.spent], [0, cheapest_price(book, text)])
                self.assertIs(is_cut(book, text, feeder.told), True)

    def test_where_no_view_is_enough(self):
        feeder = SafeFeeder(ODD)
        self.assertEqual(feeder.feed("x" + "a" * 500), ())
        self.assertEqual([feeder.waiting, feeder.behind()], ["x" + "a" * 500, 0])
        with feeder.trial():
            self.assertEqual(feeder.feed("b")[:2], ("xa", "aa"))
            self.assertEqual(feeder.behind(), 0)
        self.assertEqual(feeder.feed("ab")[:2], ("x", "aa"))
        self.assertEqual([feeder.end(), feeder.behind()], [(), 0])

    def test_8000_signs(self):
        texts = ((ODD, "x" + "a" * 7998 + "b"), (EIGHT, "x" + "a" * 7999), (NINE, "a" * 8000), (ABBA, "abba" * 2000),
                 (WAITING, "ab" * 3999 + "cb"), (WAITING, "ab" * 3999 + "bb"), (DEEP, ("bbaa" * 200 + "aab" * 5) * 9))
        for book, text in texts:
            feeder, parts = SafeFeeder(book), SafeFeeder(book)
            feeder.feed(text)
            for part in parted(text, (1, 100, 7)):
                parts.feed(part)
            self.assertEqual(feeder, parts)
            self.assertEqual([feeder.told, feeder.behind()], [parts.told, 0])
            feeder.end()
            self.assertEqual([feeder.behind(), feeder.spent], [0, cheapest_price(book, text)])
            self.assertEqual("".join(feeder), text)

    def test_the_longest_safe_piece(self):
        book = Book({"a": 1, "aa": 2, "b": 1})
        self.assertEqual(safe_pieces(book, "aa"), ("a", "aa"))
        feeder = SafeFeeder(book)
        self.assertEqual([feeder.feed("aa"), feeder.feed("b")], [plain_safe_reading(book, "aa"), ("b",)])
        more = SafeFeeder(Book({"a": 1, "aa": 2, "aab": 3, "b": 1}))
        self.assertEqual(more.feed("aab"), plain_safe_reading(more.source, "aab"))
