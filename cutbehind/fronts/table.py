"""The fronts of a book by their numbers, and the steps between them."""

FIRST = 0


def _differences(changes):
    """The least price of a text without its last signs, minus that of the text, from the changes at these signs."""
    differences = []
    total = 0
    for change in changes:
        total = total - change
        differences.append(total)
    return differences


class FrontTable:
    """Fronts are numbered, and their steps worked out, where they are needed; front 0 is that of the empty text.

    A front is kept as its signs and what the least price changed at each of them, the last one first. The differences
    follow from these changes, and a further sign leaves the old ones as they are.
    """

    def __init__(self, book):
        self._book = book
        self._most = book.longest - 1
        self._known = [("", ())]
        self._places = {("", ()): FIRST}
        self._fronts = {}
        self._endings = {}
        self._rows = {}

    def front_at(self, place):
        """The front with this number."""
        if place not in self._fronts:
            signs, changes = self._known[place]
            self._fronts[place] = signs, tuple(_differences(changes))
        return self._fronts[place]

    def row_at(self, place):
        """What the front with this number leads to, in four lists.

        For each sign the number of the next front, and the change of the least price; the differences of the front; and
        for each sign a triple that does not depend on them: the next signs, the price of the sign, and a list of the
        longer pieces that end with it. Such a piece is told by the number of signs before its last one, and its price.
        """
        if place not in self._rows:
            self._rows[place] = self._find_row(place)
        return self._rows[place]

    def fronts_from(self, place):
        """For each sign the number of the next front."""
        if place not in self._rows:
            self._rows[place] = self._find_row(place)
        return self._rows[place][0]

    def has_more_than(self, limit):
        """Whether the book has more fronts than the limit; each front that is known is that of some text."""
        place = 0
        while place < len(self._known) <= limit:
            self.row_at(place)
            place = place + 1
        return len(self._known) > limit

    def _find_row(self, place):
        signs, changes = self._known[place]
        differences = _differences(changes)
        endings = self._endings_behind(signs)
        kept = changes[:self._most - 1]
        further = []
        told = []
        for next_signs, change, longer in endings:
            for back, price in longer:
                if price + differences[back - 1] < change:
                    change = price + differences[back - 1]
            told.append(change)
            front = (next_signs, (change,) + kept) if next_signs else ("", ())
            number = self._places.get(front)
            if number is None:
                number = len(self._known)
                self._places[front] = number
                self._known.append(front)
            further.append(number)
        return further, told, differences, endings

    def _endings_behind(self, signs):
        """For each further sign: the next signs, the price of the sign, and the longer pieces that end with it."""
        if signs not in self._endings:
            found = []
            for sign in self._book.alphabet:
                longer = signs + sign
                pieces = [(many - 1, price) for piece, many, price in self._book.ending[sign] if longer.endswith(piece)]
                found.append((longer[max(0, len(longer) - self._most):], self._book[sign], pieces))
            self._endings[signs] = found
        return self._endings[signs]


def front_table(book):
    """The table of the book, which is made once."""
    if "front table" not in book.kept:
        book.kept["front table"] = FrontTable(book)
    return book.kept["front table"]
