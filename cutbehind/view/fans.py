"""The fans of texts: the pieces with which they begin, as long as these are not lost."""

from cutbehind.base.reach import NOWHERE
from cutbehind.view.tracks import track_of

# The fan of the empty text.
FIRST_FAN = ("", ())


class FanTable:
    """The fans of a book, and the steps between them.

    A fan is a pair: the text itself if a longer piece begins with it, else None; and for each piece with which the text
    begins and which is not lost, from the shortest on, its number and its place on its track. The front is part of the
    besides at these places, and there is one unless the text is empty.
    """

    def __init__(self, book, limit):
        self.signs = book.alphabet
        self._tracks = [track_of(book, piece, limit) for piece in book]
        self._numbers = {piece: number for number, piece in enumerate(book)}
        self._beginnings = {piece[:end]: True for piece in book for end in range(len(piece))}

    def next_fan(self, fan, index):
        """The fan when the sign with this index is read."""
        begun, live = fan
        moved = []
        for number, place in live:
            target = self._tracks[number].targets[place][index]
            if target != NOWHERE:
                moved.append((number, target))
        if begun is None:
            return None, tuple(moved)
        text = begun + self.signs[index]
        if text in self._numbers:
            number = self._numbers[text]
            if self._tracks[number].start != NOWHERE:
                moved.append((number, self._tracks[number].start))
        return text if text in self._beginnings else None, tuple(moved)

    def next_fans(self, fan):
        """For each sign the next fan."""
        return [self.next_fan(fan, index) for index in range(len(self.signs))]

    def fan_with(self, text, besides):
        """The fan of a text, from the pieces with which it begins, from the shortest on, each with its beside."""
        live = []
        for piece, beside in besides:
            number = self._numbers[piece]
            place = self._tracks[number].place_of(beside)
            if place != NOWHERE:
                live.append((number, place))
        return text if text in self._beginnings else None, tuple(live)

    def safe_in(self, fan):
        """The pieces that are safe at the texts with this fan, from the shortest on."""
        tracks = [self._tracks[number] for number, place in fan[1] if self._tracks[number].is_safe_at(place)]
        return [track.piece for track in tracks]

    def harmless_in(self, fan):
        """The pieces that have no loss at the texts with this fan, from the shortest on."""
        tracks = [self._tracks[number] for number, place in fan[1] if not self._tracks[number].has_loss_at(place)]
        return [track.piece for track in tracks]


def fan_table(book, limit):
    """The table of the book, which is made once; a piece may have at most so many besides."""
    if "fan table" not in book.kept:
        book.kept["fan table"] = FanTable(book, limit)
    return book.kept["fan table"]
