"""Cutters, which tell each piece from the next few signs alone."""

from cutbehind.base.checks import check_book, check_text
from cutbehind.base.least import prices_of_beginnings, prices_of_rests
from cutbehind.base.signs import is_integer
from cutbehind.errors import InvalidCutter, InvalidOperation

MAX_VIEW = 2000
MAX_WINDOWS = 2000


def check_cutter(cutter):
    """Refuses what is not a cutter."""
    if not isinstance(cutter, Cutter):
        raise InvalidCutter("a cutter is needed")


def _check_order(book, order):
    if not isinstance(order, tuple) or not all([piece in book for piece in order]):
        raise InvalidCutter("an order is a tuple of pieces of the book")
    if tuple(sorted(order)) != book.pieces:
        raise InvalidCutter("an order has each piece once")


def _view_of(book, view):
    """The view that is meant by what was passed."""
    if view is None:
        return book.longest
    if not is_integer(view) or not 1 <= view <= MAX_VIEW:
        raise InvalidCutter("a view is an integer from 1 to 2000")
    return view


def _windows_of(book, windows, most):
    """A dict of texts of at most so many signs to pieces, ascending, as is meant by what was passed."""
    if windows is None:
        return {}
    if not isinstance(windows, dict) or len(windows) > MAX_WINDOWS:
        raise InvalidCutter("a dict of at most 2000 texts is needed")
    for text, piece in windows.items():
        if not book.accepts(text) or not 1 <= len(text) <= most:
            raise InvalidCutter("a text is not over the book, empty, or too long for the view")
        if piece not in book or not text.startswith(piece):
            raise InvalidCutter("a text is told a piece with which it does not begin")
    return {text: windows[text] for text in sorted(windows)}


def _shortest_heads(texts):
    """The texts that begin with no other one, of ascending ones."""
    heads = []
    for text in texts:
        # All texts that begin with a text come right behind it.
        if not heads or not text.startswith(heads[-1]):
            heads.append(text)
    return heads


def _head_of(heads, window):
    """The one with which the window begins, of ascending texts none of which begins another, or None."""
    low = 0
    high = len(heads)
    while low < high:
        middle = (low + high) // 2
        if heads[middle] <= window:
            low = middle + 1
        else:
            high = middle
    # A text between the head and the window would begin with the head, too.
    if low > 0 and window.startswith(heads[low - 1]):
        return heads[low - 1]
    return None


def _choices_of(book, order):
    """For each sign the pieces that begin with it, in the order in which they are tried."""
    return {sign: [piece for piece in order if piece[0] == sign] for sign in book.alphabet}


class Cutter:
    """A cutter by a table, by what it tells at the end of a text, and by an order; it never changes."""

    def __init__(self, book, order, *, view=None, table=None, ends=None):
        check_book(book)
        _check_order(book, order)
        self._book = book
        self._order = order
        self._view = _view_of(book, view)
        self._table = _windows_of(book, table, self._view)
        self._ends = _windows_of(book, ends, self._view - 1)
        self._heads = _shortest_heads(list(self._table))
        self._choices = _choices_of(book, order)
        # What other modules found out about the cutter once.
        self.kept = {}

    @classmethod
    def longest_first(cls, book):
        """The cutter by the order of the pieces from the longest to the shortest."""
        check_book(book)
        # Pieces of the same length stay ascending.
        return cls(book, tuple(sorted(book.pieces, key=len, reverse=True)))

    @classmethod
    def shortest_first(cls, book):
        """The cutter by the order of the pieces from the shortest to the longest."""
        check_book(book)
        return cls(book, tuple(sorted(book.pieces, key=len)))

    @property
    def book(self):
        """The book of its pieces."""
        return self._book

    @property
    def order(self):
        """The pieces in the order in which they are tried."""
        return self._order

    @property
    def view(self):
        """The number of signs that it sees."""
        return self._view

    @property
    def table(self):
        """A dict from texts with which windows begin to pieces."""
        return dict(self._table)

    @property
    def ends(self):
        """A dict from ended windows to pieces."""
        return dict(self._ends)

    def piece_for(self, window, ended):
        """The piece that a window tells, which is known to be one."""
        # To look a long window up takes long even where there is nothing to be found.
        if ended and self._ends and window in self._ends:
            return self._ends[window]
        if self._heads:
            head = _head_of(self._heads, window)
            if head is not None:
                return self._table[head]
        for piece in self._choices[window[0]]:
            if window.startswith(piece):
                return piece
        return None

    def pieces_for(self, text, ended):
        """The pieces that are told for a text; if it may go on, as long as a whole window is seen."""
        found = []
        place = 0
        stop = len(text) if ended else len(text) - self._view + 1
        while place < stop:
            window = text[place:place + self._view]
            piece = self.piece_for(window, len(window) < self._view)
            found.append(piece)
            place = place + len(piece)
        return tuple(found)

    def tell(self, window, *, ended=False):
        """The piece that a window tells."""
        check_text(self._book, window)
        if not isinstance(ended, bool):
            raise InvalidOperation("a window is ended or not")
        least, most = (1, self._view - 1) if ended else (self._view, self._view)
        if not least <= len(window) <= most:
            raise InvalidOperation("the window has another number of signs")
        return self.piece_for(window, ended)

    def cut(self, text):
        """The pieces into which the text is cut."""
        check_text(self._book, text)
        return self.pieces_for(text, True)

    def __call__(self, text):
        return self.cut(text)

    def price(self, text):
        """The price of the cut of the text."""
        prices = self._book.prices
        return sum([prices[piece] for piece in self.cut(text)])

    def behind(self, text):
        """What the cut of the text costs above the least price."""
        return self.price(text) - prices_of_beginnings(self._book, text)[-1]

    def losses(self, text):
        """The losses of the pieces of the cut, in their order."""
        prices = self._book.prices
        pieces = self.cut(text)
        least = prices_of_rests(self._book, text)
        found = []
        place = 0
        for piece in pieces:
            found.append(prices[piece] + least[place + len(piece)] - least[place])
            place = place + len(piece)
        return tuple(found)

    def with_table(self, table, ends):
        """The cutter with other dicts."""
        return Cutter(self._book, self._order, view=self._view, table=table, ends=ends)

    def with_order(self, order):
        """The cutter with another order."""
        return Cutter(self._book, order, view=self._view, table=self._table, ends=self._ends)

    def with_view(self, view):
        """The cutter with another view, and with the texts that are short enough for it."""
        most = _view_of(self._book, view)
        table = {text: piece for text, piece in self._table.items() if len(text) <= most}
        ends = {text: piece for text, piece in self._ends.items() if len(text) < most}
        return Cutter(self._book, self._order, view=most, table=table, ends=ends)

    def __eq__(self, other):
        return (
            isinstance(other, Cutter) and self._book == other._book and self._order == other._order
            and self._view == other._view and self._table == other._table and self._ends == other._ends
        )

    def __str__(self):
        return f"cutter with a view of {self._view} over {len(self._book)} pieces"
