"""Shelves, beside a plain dict of texts: stage 17."""

import unittest

from cutbehind.base.books import Book
from cutbehind.bounds.excess import greatest_excess
from cutbehind.cuts.cutters import Cutter
from cutbehind.errors import InvalidCutter, InvalidNumber, InvalidOperation, InvalidText, NothingToUndo, TooFar, TooMany
from cutbehind.errors import UnknownText
from cutbehind.live import shelf as module
from cutbehind.live.shelf import Guard, GuardedShelf, Shelf
from cutbehind.pairs.edits import recut
from tests.samples import ABBA, HASTY, LONGEST_EIGHT, LONGEST_NINE, NO_CUTTERS, NO_TEXTS, ODD, SEEING, STRANGE
from tests.samples import all_texts

NAMES = ["".join(chr(97 + int(digit)) for digit in str(number)) for number in range(60)]
NO_NAMES = tuple(value for value in STRANGE) + ("", "a" * 9, "A", "a1", None, 1, ("a",), ["a"], {}, ABBA, HASTY, True)
NO_COUNTS = tuple(value for value in STRANGE if value not in (0, 100)) + (-1, True, False, None, "1", (1,), 1.0, ABBA)
NO_CALLS = (None, 0, 1, -5, 10 ** 99, True, False, "", "watch", (), (1,), [], [print], {}, {"a": print})


def add_a_then_undo(same):
    """What is not possible in a block, behind what is."""
    same.put("abc", "a")
    same.undo()


class Failure(Exception):
    pass


class Plain:
    """A plain dict of texts, with what can be taken back and made again as copies of the whole dict."""

    def __init__(self, texts):
        self.texts, self.done, self.undone = dict(texts), [], []

    def change(self, texts):
        self.done.append(self.texts)
        self.texts, self.undone = dict(texts), []

    def undo(self):
        self.undone.append(self.texts)
        self.texts = self.done.pop()

    def redo(self):
        self.done.append(self.texts)
        self.texts = self.undone.pop()


def listened(shelf):
    """A list to which a watcher of the shelf adds what it hears, and what the shelf then says itself."""
    heard = []
    shelf.watch(lambda name, amount: heard.append((name, amount, shelf.behind(name) if name in shelf else None)))
    return heard


class Case(unittest.TestCase):
    def check(self, shelf, texts, cutter=HASTY):
        """All that can be asked of a shelf, beside a dict of texts."""
        names = sorted(texts)
        self.assertEqual([list(shelf), shelf.names, len(shelf)], [names, tuple(names), len(names)])
        self.assertEqual([shelf.texts, list(shelf.texts)], [texts, names])
        self.assertEqual(shelf.total, sum(cutter.price(text) for text in texts.values()))
        self.assertEqual(shelf.lag, sum(cutter.behind(text) for text in texts.values()))
        self.assertEqual(str(shelf), f"shelf of {len(names)} texts for {shelf.total}")
        for name in names:
            self.assertIs(name in shelf, True)
            self.assertEqual([shelf[name], shelf.cut(name)], [texts[name], cutter.cut(texts[name])])
            self.assertEqual([shelf.price(name), shelf.behind(name)],
                             [cutter.price(texts[name]), cutter.behind(texts[name])])


class Examples(unittest.TestCase):
    def test_the_document(self):
        shelf, heard = Shelf(HASTY, texts={"one": "bbabba"}), []
        shelf.watch(lambda name, amount: heard.append((name, amount)))
        self.assertEqual(
            [shelf.total, shelf.edit("one", 0, 0, "a"), shelf.total, shelf.lag, shelf.undo(), shelf["one"], heard],
            [2, (0, ("bba", "bba"), ("ab", "b", "ab", "b", "a")), 5, 2, 0, "bbabba", [("one", 2), ("one", 0)]],
        )
        with self.assertRaises(TooFar):
            GuardedShelf(HASTY, most=1, texts={"one": "bbabba"}).edit("one", 0, 0, "a")
        self.assertEqual(
            [shelf.together(lambda same: same.put("two", "abba")), shelf.undo(), shelf.redo(), shelf.names],
            [None, 0, 1, ("one", "two")],
        )

    def test_all_four_books(self):
        cutters = (HASTY, Cutter.longest_first(ODD), LONGEST_EIGHT, LONGEST_NINE)
        for cutter in cutters:
            text = ("".join(cutter.book.pieces) * 2)[:9]
            shelf = Shelf(cutter, texts={"one": text})
            self.assertEqual([shelf.total, shelf.lag], [cutter.price(text), cutter.behind(text)])

    def test_the_constant(self):
        self.assertEqual(module.MAX_TEXTS, 50)


class Changes(Case):
    def test_beside_a_plain_dict(self):
        texts = all_texts("ab", 3)
        shelf, plain = Shelf(HASTY, texts={"b": "abba"}), Plain({"b": "abba"})
        heard = listened(shelf)
        for number in range(300):
            name, text = "abc"[number % 3], texts[number * 7 % len(texts)]
            kind = number * number % 11
            before = len(heard)
            if kind < 4 or name not in plain.texts and kind < 8:
                shelf.put(name, text) if kind % 2 else shelf.__setitem__(name, text)
                plain.change({**plain.texts, name: text})
            elif kind == 4:
                shelf.drop(name)
                plain.change({other: plain.texts[other] for other in plain.texts if other != name})
            elif kind < 8:
                old = plain.texts[name]
                start, stop = len(old) // 2, len(old)
                self.assertEqual(shelf.edit(name, start, stop, text), recut(HASTY, old, start, stop, text))
                plain.change({**plain.texts, name: old[:start] + text})
            elif kind < 10 and plain.done:
                plain.undo()
                self.assertEqual(shelf.undo(), len(plain.done))
            elif plain.undone:
                plain.redo()
                self.assertEqual(shelf.redo(), len(plain.done))
            self.check(shelf, plain.texts)
            self.assertLessEqual(len(heard) - before, 1)
            self.assertTrue(all(amount == then for _, amount, then in heard[before:]))
        self.assertEqual([shelf.undo(many=0), shelf.undo(many=len(plain.done))], [len(plain.done), 0])
        self.check(shelf, {"b": "abba"})

    def test_put_and_items(self):
        shelf = Shelf(HASTY)
        self.assertIsNone(shelf.put("one", "abba"))
        shelf["two"] = ""
        shelf["one"] = "bb"
        self.check(shelf, {"one": "bb", "two": ""})
        self.assertIsNone(shelf.drop("one"))
        self.check(shelf, {"two": ""})
        self.assertEqual(shelf.undo(many=0), 4)

    def test_a_change_that_changes_nothing_counts(self):
        shelf = Shelf(HASTY, texts={"one": "abba"})
        heard = listened(shelf)
        shelf.put("one", "abba")
        self.assertEqual(shelf.edit("one", 2, 2, ""), (3, (), ()))
        self.assertEqual([shelf.undo(many=0), len(heard), shelf.undo(), shelf.undo(), len(heard)], [2, 2, 1, 0, 4])

    def test_edits_beside_recut(self):
        for text in ("", "abba", "bbabba"):
            for start in range(len(text) + 1):
                for stop in range(start, len(text) + 1):
                    shelf = Shelf(HASTY, texts={"x": text, "y": "b"})
                    for signs in ("", "a", "bba"):
                        expected = recut(HASTY, text, start, stop, signs)
                        self.assertEqual(shelf.edit("x", start, stop, signs), expected)
                        self.check(shelf, {"x": text[:start] + signs + text[stop:], "y": "b"})
                        shelf.undo()

    def test_fifty_texts_and_one_more(self):
        texts = {name: "ab" for name in NAMES[:50]}
        shelf = Shelf(HASTY, texts=texts)
        self.check(shelf, texts)
        before = shelf.texts
        for call in (lambda: shelf.put(NAMES[50], "a"), lambda: shelf.__setitem__(NAMES[51], ""),
                     lambda: Shelf(HASTY, texts={**texts, NAMES[50]: "a"})):
            with self.assertRaises(TooMany) as caught:
                call()
            self.assertEqual(caught.exception.limit, 50)
        self.assertEqual([shelf.texts, shelf.undo(many=0)], [before, 0])
        shelf.put(NAMES[0], "bba")
        shelf.drop(NAMES[1])
        shelf.put(NAMES[50], "a")
        self.assertEqual([len(shelf), shelf.undo(many=0)], [50, 3])
        with self.assertRaises(InvalidText):
            Shelf(HASTY, texts={**texts, NAMES[50]: "c"})
        with self.assertRaises(InvalidText):
            shelf.put(NAMES[51], "c")

    def test_long_texts(self):
        text = "a" * 8000
        shelf = Shelf(HASTY, texts={"abcdefgh": text})
        with self.assertRaises(InvalidText):
            shelf.edit("abcdefgh", 0, 0, "a")
        with self.assertRaises(InvalidText):
            shelf.put("a", text + "a")
        self.assertEqual([shelf.total, shelf.edit("abcdefgh", 0, 8000, "")[0], shelf.total], [8000, 0, 0])


class Watchers(Case):
    def test_their_order_and_added_twice(self):
        shelf, heard = Shelf(HASTY), []

        def first(name, amount):
            heard.append(("first", name, amount))

        def second(name, amount):
            heard.append(("second", name, amount))

        for call in (first, second, first):
            self.assertIsNone(shelf.watch(call))
        shelf.put("one", "abba")
        self.assertEqual(heard, [("first", "one", 1), ("second", "one", 1), ("first", "one", 1)])
        heard.clear()
        self.assertIsNone(shelf.unwatch(first))
        shelf.drop("one")
        self.assertEqual(heard, [("second", "one", None), ("first", "one", None)])
        heard.clear()
        shelf.unwatch(first)
        shelf.unwatch(second)
        for call in (first, second, len):
            with self.assertRaises(InvalidOperation):
                shelf.unwatch(call)
        shelf.put("one", "a")
        self.assertEqual(heard, [])

    def test_methods_as_watchers(self):
        shelf, heard = Shelf(HASTY), {}
        shelf.watch(heard.setdefault)
        shelf.put("one", "abba")
        shelf.put("two", "")
        shelf.unwatch(heard.setdefault)
        shelf.drop("two")
        shelf.put("three", "a")
        self.assertEqual(heard, {"one": 1, "two": 0})

    def test_values_that_are_no_calls(self):
        shelf = Shelf(HASTY)
        for value in NO_CALLS:
            for call in (shelf.watch, shelf.unwatch, shelf.together):
                with self.assertRaises(InvalidOperation):
                    call(value)
        shelf.put("one", "a")
        self.assertEqual(shelf.undo(), 0)

    def test_what_they_hear(self):
        shelf = Shelf(HASTY, texts={"one": "bbabba"})
        heard = listened(shelf)
        shelf.edit("one", 0, 0, "a")
        shelf.put("two", "abba")
        shelf.drop("one")
        shelf.undo(many=3)
        shelf.redo(many=2)
        expected = [("one", 2), ("two", 1), ("one", None)]
        expected += [("one", 2), ("two", None), ("one", 0), ("one", 2), ("two", 1)]
        self.assertEqual([entry[:2] for entry in heard], expected)
        self.assertTrue(all(amount == then for _, amount, then in heard))

    def test_not_for_refused_changes(self):
        shelf = GuardedShelf(HASTY, most=0, texts={"one": "a"})
        heard = listened(shelf)
        for call in (lambda: shelf.put("one", "abba"), lambda: shelf.put("one", "c"), lambda: shelf.drop("two"),
                     lambda: shelf.edit("one", 2, 2, ""), lambda: shelf.undo(), lambda: shelf.redo()):
            with self.assertRaises((TooFar, InvalidText, UnknownText, InvalidNumber, NothingToUndo)):
                call()
        self.assertEqual(heard, [])


class Undo(Case):
    def test_a_new_change_forgets_those_taken_back(self):
        shelf = Shelf(HASTY)
        for name in ("a", "b", "c"):
            shelf.put(name, name.replace("c", "ab"))
        self.assertEqual([shelf.undo(many=2), shelf.redo(), shelf.undo()], [1, 2, 1])
        shelf.put("d", "a")
        with self.assertRaises(NothingToUndo) as caught:
            shelf.redo()
        self.assertEqual([caught.exception.many, shelf.redo(many=0), shelf.names], [1, 2, ("a", "d")])

    def test_too_many(self):
        shelf = Shelf(HASTY, texts={"one": "a"})
        for call in (shelf.undo, shelf.redo):
            self.assertEqual(call(many=0), 0)
            for many in (1, 5, 10 ** 59):
                with self.assertRaises(NothingToUndo) as caught:
                    call(many=many)
                self.assertEqual(caught.exception.many, many)
        shelf.put("two", "b")
        with self.assertRaises(NothingToUndo):
            shelf.undo(many=2)
        self.assertEqual([shelf.names, shelf.undo()], [("one", "two"), 0])
        with self.assertRaises(NothingToUndo):
            shelf.redo(many=2)
        self.assertEqual([shelf.names, shelf.redo(), shelf.names], [("one",), 1, ("one", "two")])

    def test_numbers(self):
        shelf = Shelf(HASTY)
        shelf.put("one", "a")
        for value in NO_COUNTS:
            for call in (shelf.undo, shelf.redo):
                with self.assertRaises(InvalidNumber) as caught:
                    call(many=value)
                self.assertIs(caught.exception.value, value)
                with self.assertRaises(InvalidNumber):
                    shelf.together(lambda same: call(many=value))
        for call in (shelf.undo, shelf.redo):
            with self.assertRaises(TypeError):
                call(1)
        self.assertEqual(shelf.undo(), 0)


class Blocks(Case):
    def make(self):
        shelf = Shelf(HASTY, texts={"one": "bbabba", "two": "ab"})
        shelf.put("three", "a")
        shelf.put("four", "b")
        shelf.undo()
        return shelf

    def test_a_block_that_ends_well(self):
        shelf = self.make()
        heard = listened(shelf)
        with shelf.group() as same:
            self.assertIs(same, shelf)
            shelf.edit("one", 0, 0, "a")
            shelf.drop("two")
            shelf.put("one", "b")
        self.check(shelf, {"one": "b", "three": "a"})
        self.assertEqual([entry[:2] for entry in heard], [("one", 2), ("two", None), ("one", 0)])
        self.assertEqual(shelf.undo(many=0), 2)
        heard.clear()
        self.assertEqual(shelf.undo(), 1)
        self.check(shelf, {"one": "bbabba", "two": "ab", "three": "a"})
        self.assertEqual([entry[:2] for entry in heard], [("one", 2), ("two", 0), ("one", 0)])
        self.assertTrue(all(amount == then for _, amount, then in heard))
        heard.clear()
        self.assertEqual(shelf.redo(), 2)
        self.check(shelf, {"one": "b", "three": "a"})
        self.assertEqual([entry[:2] for entry in heard], [("one", 2), ("two", None), ("one", 0)])
        with self.assertRaises(NothingToUndo):
            shelf.redo()

    def test_a_block_that_ends_by_an_error(self):
        for error in (Failure, UnknownText, InvalidText):
            shelf = self.make()
            heard, before = listened(shelf), shelf.texts
            with self.assertRaises(error):
                with shelf.group():
                    shelf.put("five", "abba")
                    shelf.drop("one")
                    heard.clear()
                    if error is Failure:
                        raise Failure
                    shelf.drop("six") if error is UnknownText else shelf.put("A", "a")
            self.assertEqual(heard, [])
            self.check(shelf, before)
            self.assertEqual([shelf.redo(), shelf.names], [2, ("four", "one", "three", "two")])
            self.assertEqual([shelf.undo(many=2), shelf.names], [0, ("one", "two")])

    def test_a_block_with_no_change(self):
        shelf = self.make()
        with shelf.group():
            pass
        self.assertIsNone(shelf.together(lambda same: None))
        self.assertEqual([shelf.undo(many=0), shelf.redo(), shelf.undo(many=2)], [1, 2, 0])
        with self.assertRaises(Failure):
            with shelf.group():
                raise Failure
        self.assertEqual([shelf.redo(many=2), shelf.undo(many=0)], [2, 2])

    def test_blocks_in_blocks(self):
        shelf = self.make()
        later = shelf.group()
        with shelf.group():
            shelf.put("five", "a")
            for call in (shelf.group, lambda: shelf.together(len), later.__enter__):
                with self.assertRaises(InvalidOperation):
                    call()
            with self.assertRaises(InvalidOperation):
                with later:
                    shelf.put("six", "a")
            shelf.put("seven", "b")
        self.assertEqual([shelf.names, shelf.undo(many=0)], [("five", "one", "seven", "three", "two"), 2])
        with later:
            shelf.put("six", "a")
        self.assertEqual([shelf.undo(many=3), shelf.names], [0, ("one", "two")])

    def test_undo_in_blocks(self):
        shelf = self.make()
        with shelf.group():
            shelf.put("five", "a")
            for call in (shelf.undo, shelf.redo):
                for many in (0, 1, 99):
                    with self.assertRaises(InvalidOperation):
                        call(many=many)
        self.assertEqual([shelf.undo(many=0), shelf.undo()], [2, 1])
        before = shelf.texts
        with self.assertRaises(InvalidOperation):
            shelf.together(add_a_then_undo)
        self.assertEqual([shelf.texts, shelf.redo()], [before, 2])

    def test_a_new_change_in_a_block_forgets_those_taken_back(self):
        shelf = self.make()
        with shelf.group():
            shelf.drop("one")
        with self.assertRaises(NothingToUndo):
            shelf.redo()

    def test_two_blocks_one_after_the_other(self):
        shelf = self.make()
        for text in ("a", "b"):
            with shelf.group():
                shelf.put("x", text)
                shelf.put("y", text)
        self.assertEqual([shelf.undo(many=0), shelf.undo(), shelf["x"], shelf["y"]], [3, 2, "a", "a"])
        self.assertEqual([shelf.undo(), "x" in shelf, shelf.redo(many=2), shelf["y"]], [1, False, 3, "b"])

    def test_together(self):
        shelf = self.make()
        self.assertEqual(shelf.together(lambda same: (same is shelf, same.put("a", "a"), same.edit("a", 0, 1, "b"))),
                         (True, None, (0, ("a",), ("b",))))
        self.assertEqual([shelf.undo(), "a" in shelf], [1, False])

        def fail(same):
            same.put("a", "a")
            raise Failure

        before = shelf.texts
        with self.assertRaises(Failure):
            shelf.together(fail)
        self.assertEqual([shelf.texts, shelf.undo(many=0), shelf.redo(), shelf["a"]], [before, 1, 2, "b"])
        with shelf.group():
            for value in NO_CALLS:
                with self.assertRaises(InvalidOperation):
                    shelf.together(value)

    def test_watchers_in_a_block_that_fails(self):
        shelf, heard = self.make(), []
        with self.assertRaises(Failure):
            with shelf.group():
                shelf.put("a", "a")
                shelf.watch(lambda name, amount: heard.append(name))
                shelf.put("b", "b")
                raise Failure
        shelf.put("c", "a")
        self.assertEqual(heard, ["b", "c"])


class Guards(Case):
    def test_allows(self):
        for most in range(4):
            guard = Guard(most)
            self.assertEqual(guard.most, most)
            for text in all_texts("ab", 5) + ["abbabba", "abbabbabba", "abbabbabbabba"]:
                self.assertIs(guard.allows(HASTY, text), HASTY.behind(text) <= most)

    def test_needless_beside_the_greatest_excess(self):
        for cutter in (HASTY, SEEING, LONGEST_EIGHT, LONGEST_NINE, Cutter.longest_first(ODD)):
            greatest = greatest_excess(cutter)
            for most in (0, 1, 6, 7, 8, 9, 10 ** 59):
                self.assertIs(Guard.is_needless(cutter, most), greatest is not None and greatest <= most)
        self.assertIs(Guard(3).is_needless(SEEING, 0), True)

    def test_just_below_and_just_above(self):
        for most, text in ((0, "bba"), (1, "abba"), (2, "abbabba")):
            self.assertEqual(HASTY.behind(text), most)
            shelf = GuardedShelf(HASTY, most=most, texts={"one": text})
            shelf.put("two", text)
            with self.assertRaises(TooFar) as caught:
                shelf.put("three", "abba" + "bba" * most)
            self.assertEqual(caught.exception.number, most + 1)
            with self.assertRaises(TooFar) as caught:
                shelf["two"] = "abba" + "bba" * (most + 2)
            self.assertEqual(caught.exception.number, most + 3)
            with self.assertRaises(TooFar) as caught:
                shelf.edit("one", 0, len(text), "abba" + "bba" * most)
            self.assertEqual(caught.exception.number, most + 1)
            self.check(shelf, {"one": text, "two": text})
            self.assertEqual([shelf.most, shelf.undo(), shelf.names], [most, 0, ("one",)])

    def test_at_its_creation_the_first_one_by_names(self):
        texts = {"c": "abba", "b": "abbabbabba", "a": "bba", "d": "abbabbabbabba"}
        for most, number in ((2, 3), (0, 3), (1, 3), (3, 4)):
            with self.assertRaises(TooFar) as caught:
                GuardedShelf(HASTY, most=most, texts=texts)
            self.assertEqual(caught.exception.number, number)
        self.check(GuardedShelf(HASTY, most=4, texts=texts), texts)

    def test_it_is_both(self):
        shelf = GuardedShelf(HASTY, most=1)
        self.assertIsInstance(shelf, Shelf)
        self.assertIsInstance(shelf, Guard)
        self.assertEqual([shelf.allows(HASTY, "abba"), shelf.allows(HASTY, "abbabba")], [True, False])
        self.assertEqual([shelf.is_needless(SEEING, 0), GuardedShelf.is_needless(HASTY, 5)], [True, False])
        with self.assertRaises(AttributeError):
            shelf.most = 3

    def test_blocks_and_undo(self):
        shelf = GuardedShelf(HASTY, most=0, texts={"one": "bba"})
        with self.assertRaises(TooFar):
            with shelf.group():
                shelf.put("two", "a")
                shelf.edit("one", 0, 0, "a")
        self.check(shelf, {"one": "bba"})
        shelf.drop("one")
        self.assertEqual([shelf.undo(), shelf.redo(), shelf.names], [0, 1, ()])

    def test_errors_come_before_too_far(self):
        shelf = GuardedShelf(HASTY, most=0, texts={name: "" for name in NAMES[:50]})
        for call, error in ((lambda: shelf.put("z", "abba"), TooMany), (lambda: shelf.put("A", "abba"), InvalidText),
                            (lambda: shelf.put("a", "abbac"), InvalidText), (lambda: shelf.put("a", "abba"), TooFar),
                            (lambda: shelf.edit("zz", 9, 9, "abba"), UnknownText),
                            (lambda: shelf.edit("a", 9, 9, "abba"), InvalidNumber),
                            (lambda: shelf.edit("a", 0, 0, "abbac"), InvalidText),
                            (lambda: shelf.edit("a", 0, 0, "abba"), TooFar)):
            with self.assertRaises(error):
                call()
        self.assertEqual([shelf.lag, shelf.undo(many=0)], [0, 0])


class Equal(unittest.TestCase):
    def test_shelves(self):
        shelf, same = Shelf(HASTY, texts={"one": "a", "two": "b"}), Shelf(Cutter.longest_first(Book(ABBA.prices)))
        same.put("two", "b")
        same.put("one", "a")
        same.watch(len)
        self.assertIs(shelf == same, True)
        self.assertIs(shelf != same, False)
        others = (Shelf(HASTY, texts={"one": "a"}), Shelf(HASTY, texts={"one": "a", "two": "ab"}),
                  Shelf(SEEING, texts=shelf.texts), Shelf(HASTY, texts={"one": "a", "twos": "b"}), shelf.texts,
                  GuardedShelf(HASTY, most=9, texts=shelf.texts), HASTY, Guard(1))
        for value in STRANGE + others:
            self.assertIs(shelf == value, False)
            self.assertIs(shelf != value, True)

    def test_guarded_ones(self):
        texts = {"one": "abba"}
        shelf = GuardedShelf(HASTY, most=1, texts=texts)
        self.assertIs(shelf == GuardedShelf(HASTY, most=1, texts=texts), True)
        self.assertIs(shelf != GuardedShelf(HASTY, most=1, texts=texts), False)
        for value in (GuardedShelf(HASTY, most=2, texts=texts), Shelf(HASTY, texts=texts), Guard(1), texts,
                      GuardedShelf(HASTY, most=1), GuardedShelf(SEEING, most=1, texts=texts)):
            self.assertIs(shelf == value, False)
            self.assertIs(value == shelf, False)
            self.assertIs(shelf != value, True)


class Refused(unittest.TestCase):
    def test_cutters(self):
        for value in NO_CUTTERS:
            for call in (lambda: Shelf(value), lambda: Shelf(value, texts=1), lambda: GuardedShelf(value, most=0),
                         lambda: GuardedShelf(value, most=-1, texts=1), lambda: Guard(1).allows(value, None),
                         lambda: Guard.is_needless(value, None)):
                with self.assertRaises(InvalidCutter):
                    call()

    def test_texts_of_a_shelf(self):
        for value in STRANGE + (1, "", "one", ("one", "a"), [("one", "a")], ABBA, HASTY):
            if value not in ({}, {"a": "a"}, None):
                for call in (lambda: Shelf(HASTY, texts=value), lambda: GuardedShelf(HASTY, most=0, texts=value)):
                    with self.assertRaises(InvalidText):
                        call()
        for name in ("", "A", "abcdefghi", 1, None, ("a",), True):
            with self.assertRaises(InvalidText):
                Shelf(HASTY, texts={"one": "a", name: "a"})
        for text in NO_TEXTS:
            with self.assertRaises(InvalidText):
                Shelf(HASTY, texts={"one": "a", "two": text})
        for texts in (None, {}):
            self.assertEqual(len(Shelf(HASTY, texts=texts)), 0)

    def test_numbers(self):
        for value in NO_COUNTS:
            for call in (lambda: Guard(value), lambda: GuardedShelf(HASTY, most=value),
                         lambda: GuardedShelf(HASTY, most=value, texts=1), lambda: Guard.is_needless(HASTY, value),
                         lambda: Guard.is_needless(HASTY.with_view(12), value)):
                with self.assertRaises(InvalidNumber) as caught:
                    call()
                self.assertIs(caught.exception.value, value)
        with self.assertRaises(TooMany) as caught:
            Guard.is_needless(HASTY.with_view(12), 0)
        self.assertEqual(caught.exception.limit, 2000)
        for value in NO_TEXTS:
            with self.assertRaises(InvalidText):
                Guard(1).allows(HASTY, value)

    def test_names_and_texts_that_are_put(self):
        shelf = Shelf(HASTY, texts={"one": "ab"})
        for name in NO_NAMES:
            for call in (shelf.put, shelf.__setitem__):
                for text in ("a", "c", None):
                    with self.assertRaises(InvalidText):
                        call(name, text)
        for text in NO_TEXTS:
            for call in (shelf.put, shelf.__setitem__):
                with self.assertRaises(InvalidText):
                    call("two", text)
        self.assertEqual([shelf.texts, shelf.undo(many=0)], [{"one": "ab"}, 0])

    def test_names_that_are_not_there(self):
        shelf = Shelf(HASTY, texts={"one": "ab"})
        for name in NO_NAMES + ("two", "on", "ones", "ab", shelf):
            self.assertIs(name in shelf, False)
            for call in (shelf.cut, shelf.price, shelf.behind, shelf.drop, shelf.__getitem__,
                         lambda value: shelf.edit(value, None, None, None)):
                with self.assertRaises(UnknownText) as caught:
                    call(name)
                self.assertIs(caught.exception.name, name)
        self.assertEqual([shelf.texts, shelf.undo(many=0)], [{"one": "ab"}, 0])

    def test_edits(self):
        shelf = Shelf(HASTY, texts={"one": "abba"})
        for start, stop, signs in ((5, 9, "c"), (2, 1, "c"), (-1, 1, ""), (True, 1, ""), (0, None, "")):
            with self.assertRaises(InvalidNumber):
                shelf.edit("one", start, stop, signs)
        for start, stop, signs in ((0, 1, "c"), (0, 1, None), (0, 0, "a" * 7997)):
            with self.assertRaises(InvalidText):
                shelf.edit("one", start, stop, signs)
        self.assertEqual([shelf.texts, shelf.undo(many=0)], [{"one": "abba"}, 0])

    def test_what_is_passed_and_told_changed_afterwards(self):
        texts = {"one": "abba"}
        shelf = Shelf(HASTY, texts=texts)
        texts["two"] = "c"
        shelf.texts.clear()
        self.assertEqual([shelf.names, shelf.cutter], [("one",), HASTY])
        for name in ("cutter", "names", "texts", "total", "lag"):
            with self.assertRaises(AttributeError):
                setattr(shelf, name, None)

    def test_by_keyword_only(self):
        for call in (lambda: Shelf(HASTY, {}), lambda: GuardedShelf(HASTY, 1), lambda: GuardedShelf(HASTY)):
            with self.assertRaises(TypeError):
                call()
