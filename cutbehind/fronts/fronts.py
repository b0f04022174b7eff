"""Fronts of a book: how the least price of a text goes on."""

from cutbehind.base.checks import check_book, check_count, check_sign, check_text
from cutbehind.base.reach import found_once, reach
from cutbehind.errors import InvalidStand
from cutbehind.fronts.steps import front_behind, front_step, has_form_of_front
from cutbehind.fronts.table import FIRST, front_table

MAX_FRONTS = 2000


def _find_fronts(book):
    """A dict from each front of a text, ascending, to a shortest text; or None if there are too many."""
    table = front_table(book)
    if table.has_more_than(MAX_FRONTS):
        return None
    found = reach(FIRST, book.alphabet, table.fronts_from, MAX_FRONTS)
    texts = {table.front_at(place): text for place, text in zip(found.nodes, found.shortest)}
    return {front: texts[front] for front in sorted(texts)}


def _reached_fronts(book):
    """The dict of the fronts, which is found once."""
    return found_once(book.kept, "reached fronts", lambda: _find_fronts(book), MAX_FRONTS)


def front_of(book, text):
    """The front of the text."""
    check_book(book)
    check_text(book, text)
    return front_behind(book, text)


def next_front(book, front, sign):
    """The front when a further sign is read, and the change of the least price."""
    check_book(book)
    if not has_form_of_front(book, front):
        raise InvalidStand("a front is a pair of signs and as many integers")
    check_sign(book, sign)
    return front_step(book, front, sign)


class Fronts:
    """The reached fronts of a book; it never changes."""

    def __init__(self, book):
        check_book(book)
        self._book = book
        self._found = _reached_fronts(book)
        self._rows = tuple(self._found)

    @property
    def rows(self):
        """The fronts, ascending."""
        return self._rows

    @property
    def spread(self):
        """The greatest absolute value of all differences."""
        return max([abs(number) for signs, differences in self._rows for number in differences], default=0)

    def __iter__(self):
        return iter(self._rows)

    def __len__(self):
        return len(self._rows)

    def __contains__(self, value):
        # True and 1 are one key of a dict, but only 1 is an integer.
        return has_form_of_front(self._book, value) and value in self._found

    def __getitem__(self, front):
        if front not in self:
            raise InvalidStand("no text has this front")
        return self._found[front]

    def layer(self, many):
        """The fronts whose shortest texts have so many signs, ascending."""
        check_count(many)
        return tuple([front for front in self._rows if len(self._found[front]) == many])
