"""Books, which give prices to pieces."""

# MAX_LENGTH and MAX_SIGNS are constants of this module, too. They are defined beside
# is_text and is_piece, which need them, as two files must not import from each other.
from cutbehind.base.signs import MAX_LENGTH, MAX_SIGNS, is_integer, is_piece
from cutbehind.errors import InvalidBook, InvalidNumber, InvalidOperation, InvalidText, UnknownPiece

MAX_PIECES = 12
MAX_ALPHABET = 4
MAX_PRICE = 99


def is_price(value):
    """Whether the value is a price."""
    return is_integer(value) and 1 <= value <= MAX_PRICE


def _is_ascending(strings):
    return list(strings) == sorted(set(strings))


def _signs_in(pieces):
    """The signs of the pieces, ascending."""
    return tuple(sorted(set("".join(pieces))))


def _longer_pieces(prices, alphabet, place):
    """For each sign the pieces of several signs that have it at this place, with their numbers of signs and prices."""
    longer = [(piece, len(piece), price) for piece, price in prices.items() if len(piece) > 1]
    return {sign: [entry for entry in longer if entry[0][place] == sign] for sign in alphabet}


def _are_prices(value):
    """Whether the value is a dict that makes a book."""
    if not isinstance(value, dict) or not 1 <= len(value) <= MAX_PIECES:
        return False
    if not all([is_piece(piece) and is_price(price) for piece, price in value.items()]):
        return False
    alphabet = _signs_in(list(value))
    return len(alphabet) <= MAX_ALPHABET and all([sign in value for sign in alphabet])


def _are_pairs(value):
    """Whether the value is a tuple of pairs, ascending by their first parts, which are pieces."""
    if not isinstance(value, tuple):
        return False
    for pair in value:
        if not isinstance(pair, tuple) or len(pair) != 2 or not is_piece(pair[0]):
            return False
    return _is_ascending([pair[0] for pair in value])


def _result(prices):
    """The book that an operation gives."""
    if not _are_prices(prices):
        raise InvalidOperation("the result is no book")
    return Book(prices)


class Book:
    """Pieces of one to five signs with their prices; it never changes."""

    def __init__(self, prices):
        if not _are_prices(prices):
            raise InvalidBook("a book takes a dict from pieces to prices, each sign a piece")
        self._prices = {piece: prices[piece] for piece in sorted(prices)}
        self._pieces = tuple(self._prices)
        self._alphabet = _signs_in(self._pieces)
        self._longest = max([len(piece) for piece in self._pieces])
        self._dearest = max(self._prices.values())
        # What follows is for the other modules: the pieces by their last and first signs, and what they found out once.
        self.ending = _longer_pieces(self._prices, self._alphabet, -1)
        self.heading = _longer_pieces(self._prices, self._alphabet, 0)
        self.kept = {}

    @classmethod
    def of(cls, pairs):
        """The book with these pairs (piece, price), which ascend."""
        if not _are_pairs(pairs):
            raise InvalidBook("pairs of a piece and a price are needed, ascending")
        return cls(dict(pairs))

    @property
    def prices(self):
        """A dict from the pieces to their prices."""
        return dict(self._prices)

    @property
    def pieces(self):
        """The pieces, ascending."""
        return self._pieces

    @property
    def alphabet(self):
        """The signs in the pieces, ascending."""
        return self._alphabet

    @property
    def longest(self):
        """The number of signs of the longest piece."""
        return self._longest

    @property
    def dearest(self):
        """The greatest price."""
        return self._dearest

    def __getitem__(self, piece):
        if piece not in self:
            raise UnknownPiece(piece)
        return self._prices[piece]

    def __contains__(self, value):
        # A value that cannot be hashed must not reach the dict.
        return isinstance(value, str) and value in self._prices

    def __iter__(self):
        return iter(self._pieces)

    def __len__(self):
        return len(self._pieces)

    def __eq__(self, other):
        return isinstance(other, Book) and self._prices == other._prices

    def __str__(self):
        return f"book of {len(self._pieces)} pieces, {len(self._alphabet)} signs"

    def accepts(self, value):
        """Whether the value is a text over the book, of at most 8000 signs."""
        # A string that has only signs of the alphabet is a text if it is not too long.
        if not isinstance(value, str) or len(value) > MAX_SIGNS:
            return False
        return len(set(value) - set(self._alphabet)) == 0

    def starting(self, text):
        """The pieces with which a text over the book begins, ascending."""
        if not self.accepts(text):
            raise InvalidText("a text over the book is needed")
        return tuple([piece for piece in self._pieces if text.startswith(piece)])

    def with_price(self, piece, price):
        """The book with this piece at this price."""
        if not is_piece(piece):
            raise InvalidText("a piece of one to five signs is needed")
        if not is_price(price):
            raise InvalidNumber(price)
        return _result({**self._prices, piece: price})

    def __or__(self, other):
        """The pieces of both books; the lesser price where both have one."""
        if not isinstance(other, Book):
            raise InvalidOperation("a book is joined with a book only")
        prices = dict(self._prices)
        for piece, price in other._prices.items():
            prices[piece] = min(price, prices.get(piece, price))
        return _result(prices)

    def __and__(self, other):
        """The pieces that both books have; the greater price."""
        if not isinstance(other, Book):
            raise InvalidOperation("a book is met with a book only")
        shared = [piece for piece in self._pieces if piece in other]
        return _result({piece: max(self._prices[piece], other._prices[piece]) for piece in shared})

    def __sub__(self, other):
        """The book without an ascending tuple of its pieces."""
        if not isinstance(other, tuple) or not all([piece in self for piece in other]):
            raise InvalidOperation("a tuple of pieces of the book is needed")
        if not _is_ascending(other):
            raise InvalidOperation("the pieces are not ascending")
        left = [piece for piece in self._pieces if piece not in other]
        return _result({piece: self._prices[piece] for piece in left})
