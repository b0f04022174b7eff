"""The fans of all rests of a text, from its least prices."""

from cutbehind.base.least import prices_of_rests
from cutbehind.view.besides import NO_LOSS


class Rests:
    """The fans of what is left of a text from each place on.

    To read each rest sign by sign would take long for a long text; this takes as long as to read the text some times.
    """

    def __init__(self, book, table, text):
        self._book = book
        self._table = table
        self._text = text
        # For the text without its last signs, from none to as many as a front has.
        many = min(book.longest, len(text) + 1)
        self._least = [prices_of_rests(book, text[:len(text) - back]) for back in range(many)]

    def fan_at(self, place):
        """The fan of the rest from this place on."""
        left = len(self._text) - place
        front = self._front_at(place, left)
        pieces = [piece for piece in self._book if self._text.startswith(piece, place)]
        besides = [(piece, (front, self._losses_at(place, left, piece))) for piece in sorted(pieces, key=len)]
        return self._table.fan_with(self._text[place:], besides)

    def _front_at(self, place, left):
        many = min(left, self._book.longest - 1)
        least = [self._least[back][place] for back in range(many + 1)]
        signs = self._text[len(self._text) - many:]
        return signs, tuple([least[back] - least[0] for back in range(1, many + 1)])

    def _losses_at(self, place, left, piece):
        losses = []
        for back in range(self._book.longest):
            if left - back < len(piece):
                losses.append(NO_LOSS)
            else:
                least = self._least[back]
                losses.append(self._book[piece] + least[place + len(piece)] - least[place])
        return tuple(losses)
