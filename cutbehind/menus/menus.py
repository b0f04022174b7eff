"""Menus: further pieces for a cutter by an order, and how far it falls behind with some of them."""

from cutbehind.base.books import MAX_PIECES, Book, is_price
from cutbehind.base.signs import is_integer, is_piece
from cutbehind.bounds.excess import is_never_behind
from cutbehind.bounds.firsts import first_text_above
from cutbehind.cuts.cutters import Cutter, check_cutter
from cutbehind.errors import InvalidCutter, InvalidMenu, InvalidOperation, TooMany
from cutbehind.stands.stands import check_stands, graph_of

MAX_MENU = 6


def _check_order_only(cutter):
    """Refuses what is not a cutter by its order alone."""
    check_cutter(cutter)
    if cutter.table or cutter.ends or cutter.view != cutter.book.longest:
        raise InvalidCutter("a cutter is needed that goes by its order, with the view of its longest piece")


def _is_offer(book, piece, offer):
    """Whether this is a piece that the book does not have, with a price and a place."""
    if not is_piece(piece) or piece in book or not book.accepts(piece):
        return False
    if not isinstance(offer, tuple) or len(offer) != 2 or not is_price(offer[0]):
        return False
    return is_integer(offer[1]) and 0 <= offer[1] <= len(book)


def _check_offers(book, offers):
    """Refuses what is not a menu for a cutter over the book."""
    if not isinstance(offers, dict) or len(offers) > MAX_MENU:
        raise InvalidMenu("a dict of at most six pieces is needed")
    if not all([_is_offer(book, piece, offer) for piece, offer in offers.items()]):
        raise InvalidMenu("a piece is not a further one, or has no price and place")
    if len(book) + len(offers) > MAX_PIECES:
        raise TooMany(MAX_PIECES)


def _all_parts(pieces):
    """All ascending tuples of some of these pieces, by their numbers of pieces, then ascending."""
    found = [()]
    done = 0
    while done < len(found):
        part = found[done]
        found.extend([part + (piece,) for piece in pieces if not part or piece > part[-1]])
        done = done + 1
    return found


def _cutter_with(cutter, offers, part):
    """The cutter with some of the pieces that are offered."""
    prices = cutter.book.prices
    for piece in part:
        prices[piece] = offers[piece][0]
    order = []
    for place, known in enumerate(cutter.order + (None,)):
        order.extend([piece for piece in part if offers[piece][1] == place])
        if known is not None:
            order.append(known)
    return Cutter(Book(prices), tuple(order))


class Menu:
    """Further pieces that are offered to a cutter; it never changes."""

    def __init__(self, cutter, pieces):
        _check_order_only(cutter)
        _check_offers(cutter.book, pieces)
        self._cutter = cutter
        self._names = tuple(sorted(pieces))
        self._offers = {piece: pieces[piece] for piece in self._names}
        self._cutters = {part: _cutter_with(cutter, self._offers, part) for part in _all_parts(self._names)}
        for changed in self._cutters.values():
            check_stands(changed)

    @property
    def cutter(self):
        """The cutter to which the pieces are offered."""
        return self._cutter

    @property
    def pieces(self):
        """A dict from the pieces to pairs of a price and a place."""
        return dict(self._offers)

    def parts(self):
        """All parts, by the number of pieces, then ascending."""
        for part in self._cutters:
            yield part

    def cutter_with(self, part):
        """The cutter with a part."""
        # A value that cannot be hashed must not reach the dict.
        if not isinstance(part, tuple) or not all([isinstance(piece, str) for piece in part]):
            raise InvalidOperation("a part is a tuple of pieces")
        if part not in self._cutters:
            raise InvalidOperation("the pieces are not some of those offered, ascending")
        return self._cutters[part]

    def is_good(self, part):
        """Whether the cutter with the part is never behind."""
        return is_never_behind(self.cutter_with(part))

    def reason(self, part):
        """A shortest text at which the cutter with the part is behind, or None."""
        return first_text_above(graph_of(self.cutter_with(part)))

    def good(self):
        """The good parts, by the number of pieces, then ascending."""
        return tuple([part for part in self._cutters if self.is_good(part)])

    def least(self):
        """The good parts such that no part of fewer of their pieces is good."""
        good = self.good()
        return tuple([part for part in good if not any([_is_less(other, part) for other in good])])

    def spoilers(self):
        """The pairs of a good part and a further piece with which it is not good."""
        good = self.good()
        found = []
        for part in good:
            for piece in self._names:
                if piece not in part and tuple(sorted(part + (piece,))) not in good:
                    found.append((part, piece))
        return tuple(found)

    def paper(self):
        """The good parts, and for each other part a text at which the cutter with it is behind."""
        good = self.good()
        reasons = {part: self.reason(part) for part in sorted(self._cutters) if part not in good}
        return good, reasons

    def is_paper(self, value):
        """Whether the value is a menu paper."""
        if not isinstance(value, tuple) or len(value) != 2:
            return False
        good, reasons = value
        if good != self.good() or not isinstance(reasons, dict) or len(reasons) != len(self._cutters) - len(good):
            return False
        for part, cutter in self._cutters.items():
            if part not in good and (part not in reasons or not _is_behind(cutter, reasons[part])):
                return False
        return True

    def __contains__(self, value):
        return isinstance(value, str) and value in self._offers

    def __iter__(self):
        return iter(self._names)

    def __len__(self):
        return len(self._names)

    def __eq__(self, other):
        return isinstance(other, Menu) and self._cutter == other._cutter and self._offers == other._offers

    def __str__(self):
        return f"menu of {len(self._names)} pieces"


def _is_less(other, part):
    """Whether the one part has only pieces of the other, and fewer."""
    return len(other) < len(part) and all([piece in part for piece in other])


def _is_behind(cutter, text):
    """Whether the value is a text at which the cutter is behind."""
    return cutter.book.accepts(text) and cutter.behind(text) > 0
