"""The signs that wait in a cutter, and what it tells for them."""


class Waits:
    """What becomes of the signs that wait in a cutter, worked out where it is needed."""

    def __init__(self, cutter):
        self._cutter = cutter
        self._view = cutter.view
        self._signs = cutter.book.alphabet
        self._prices = cutter.book.prices
        self._nothing = [0] * len(self._signs)
        self._rows = {}
        self._ends = {"": 0}

    def left_after(self, waiting):
        """For each sign that is read, the signs that wait then."""
        if len(waiting) + 1 < self._view:
            return [waiting + sign for sign in self._signs]
        return self._row_of(waiting)[0]

    def told_after(self, waiting):
        """For each sign that is read, the price of the piece that is told, or 0."""
        if len(waiting) + 1 < self._view:
            return self._nothing
        return self._row_of(waiting)[1]

    def _row_of(self, waiting):
        if waiting not in self._rows:
            left = []
            told = []
            for sign in self._signs:
                window = waiting + sign
                piece = self._cutter.piece_for(window, False)
                left.append(window[len(piece):])
                told.append(self._prices[piece])
            self._rows[waiting] = left, told
        return self._rows[waiting]

    def at_end(self, waiting):
        """The price of the pieces that are told for the waiting signs when the text ends."""
        passed = []
        while waiting not in self._ends:
            piece = self._cutter.piece_for(waiting, True)
            passed.append((waiting, self._prices[piece]))
            waiting = waiting[len(piece):]
        total = self._ends[waiting]
        for longer, price in passed[::-1]:
            total = total + price
            self._ends[longer] = total
        return total


def do_many_wait(cutter, limit):
    """Whether more texts than the limit have fewer signs than the view: each of them waits as a whole."""
    layer = 1
    many = 1
    for _ in range(cutter.view - 1):
        layer = layer * len(cutter.book.alphabet)
        many = many + layer
        if many > limit:
            return True
    return False


def waits_of(cutter):
    """The waits of the cutter, which are made once."""
    if "waits" not in cutter.kept:
        cutter.kept["waits"] = Waits(cutter)
    return cutter.kept["waits"]
