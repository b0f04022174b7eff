"""Feeders: texts that come in parts, and pieces that are told as soon as they can be."""

from cutbehind.base.checks import check_book, check_count, check_text
from cutbehind.base.least import prices_of_beginnings
from cutbehind.base.signs import is_integer
from cutbehind.cuts.cuts import cheapest
from cutbehind.cuts.cutters import check_cutter
from cutbehind.errors import InvalidNumber, InvalidOperation, NothingToUndo, TooMany
from cutbehind.view.fans import FIRST_FAN, fan_table
from cutbehind.view.rests import Rests
from cutbehind.view.safe import MAX_BESIDES

MAX_FED = 8000


class Reading:
    """What a feeder has read and told at a time; it never changes, so that feeders can share it."""

    def __init__(self, signs, pieces, place, fan, closed, calls):
        self.signs = signs
        self.known = pieces
        self.place = place
        self.fan = fan
        self.closed = closed
        # For each call that can be taken back: how many signs and pieces there were, the place and the fan.
        self.calls = calls

    def before_calls(self, many):
        """What was read and told before so many calls."""
        if many == 0:
            return self
        signs, pieces, place, fan = self.calls[-many]
        return Reading(self.signs[:signs], self.known[:pieces], place, fan, False, self.calls[:-many])

    def after_call(self, signs, pieces, fan, closed):
        """What is read and told when a call has added signs and pieces."""
        call = (len(self.signs), len(self.known), self.place, self.fan)
        place = self.place + sum([len(piece) for piece in pieces])
        return Reading(self.signs + signs, self.known + pieces, place, fan, closed, self.calls + (call,))


class Trial:
    """A block behind which a feeder is as before."""

    def __init__(self, feeder):
        self._feeder = feeder
        self._before = None

    def __enter__(self):
        self._before = self._feeder._reading
        return self._feeder

    def __exit__(self, kind, value, trace):
        feeder = self._feeder
        feeder._reading = self._before


class Feeder:
    """A text that comes in parts, cut by a cutter."""

    def __init__(self, cutter):
        check_cutter(cutter)
        self._source = cutter
        self._book = cutter.book
        self._prices = cutter.book.prices
        self._reading = Reading("", (), 0, FIRST_FAN, False, ())

    @property
    def told(self):
        """All pieces that were told so far."""
        return self._reading.known

    @property
    def waiting(self):
        """The signs behind the pieces that were told."""
        return self._reading.signs[self._reading.place:]

    @property
    def text(self):
        """All signs."""
        return self._reading.signs

    @property
    def spent(self):
        """The price of the pieces that were told."""
        return sum([self._prices[piece] for piece in self._reading.known])

    @property
    def is_ended(self):
        """Whether the text has ended."""
        return self._reading.closed

    @property
    def source(self):
        """What the feeder was made of."""
        return self._source

    def _check_open(self):
        if self._reading.closed:
            raise InvalidOperation("the text has ended")

    def _tell(self, signs):
        """The pieces that are told when these signs are read, and the fan behind them, which only safe feeders need."""
        waiting = self._reading.signs[self._reading.place:]
        return self._source.pieces_for(waiting + signs, False), FIRST_FAN

    def _tell_rest(self):
        """The pieces that are told at the end."""
        return self._source.pieces_for(self._reading.signs[self._reading.place:], True)

    def feed(self, signs):
        """Reads signs; the pieces that are told now."""
        check_text(self._book, signs)
        self._check_open()
        if len(self._reading.signs) + len(signs) > MAX_FED:
            raise TooMany(MAX_FED)
        pieces, fan = self._tell(signs)
        self._reading = self._reading.after_call(signs, pieces, fan, False)
        return pieces

    def __iadd__(self, other):
        self.feed(other)
        return self

    def end(self):
        """Ends the text; the remaining pieces."""
        self._check_open()
        pieces = self._tell_rest()
        self._reading = self._reading.after_call("", pieces, FIRST_FAN, True)
        return pieces

    def behind(self):
        """What the told pieces cost, with the least price of what waits, above the least price of the text."""
        waiting = self._reading.signs[self._reading.place:]
        ahead = self.spent + prices_of_beginnings(self._book, waiting)[-1]
        return ahead - prices_of_beginnings(self._book, self._reading.signs)[-1]

    def __len__(self):
        return len(self._reading.known)

    def __iter__(self):
        return iter(self._reading.known)

    def __getitem__(self, index):
        if not is_integer(index) or not 0 <= index < len(self._reading.known):
            raise InvalidNumber(index)
        return self._reading.known[index]

    def __bool__(self):
        return not self._reading.closed

    def __eq__(self, other):
        return (
            isinstance(other, Feeder) and type(self) is type(other) and self._source == other._source
            and self._reading.signs == other._reading.signs and self._reading.closed == other._reading.closed
        )

    def __str__(self):
        return f"feeder with {len(self._reading.known)} pieces, {len(self.waiting)} signs waiting"

    def undo(self, *, many=1):
        """Takes back so many calls; how many are left."""
        check_count(many)
        if many > len(self._reading.calls):
            raise NothingToUndo(many)
        self._reading = self._reading.before_calls(many)
        return len(self._reading.calls)

    def trial(self):
        """A block behind which the feeder is as before."""
        return Trial(self)

    def during(self, call):
        """What call(feeder) gives in a block behind which the feeder is as before."""
        with self.trial() as same:
            return call(same)

    def twin(self):
        """An independent copy, with the same calls to take back."""
        copy = Feeder(self._source)
        copy._reading = self._reading
        return copy


class SafeFeeder(Feeder):
    """A text that comes in parts, cut into pieces that are safe, so that it is never behind."""

    def __init__(self, book):
        check_book(book)
        self._source = book
        self._book = book
        self._prices = book.prices
        self._table = fan_table(book, MAX_BESIDES)
        self._indexes = {sign: index for index, sign in enumerate(book.alphabet)}
        self._reading = Reading("", (), 0, FIRST_FAN, False, ())

    def _tell(self, signs):
        waiting = self._reading.signs[self._reading.place:]
        fan = self._reading.fan
        pieces = []
        for sign in signs:
            waiting = waiting + sign
            fan = self._table.next_fan(fan, self._indexes[sign])
            if self._table.safe_in(fan):
                found, fan = self._safe_pieces(waiting, fan)
                pieces.extend(found)
                waiting = waiting[len("".join(found)):]
        return tuple(pieces), fan

    def _safe_pieces(self, waiting, fan):
        """The longest safe pieces, as long as there are some, and the fan of what waits behind them."""
        rests = Rests(self._book, self._table, waiting)
        found = []
        place = 0
        safe = self._table.safe_in(fan)
        while safe:
            found.append(safe[-1])
            place = place + len(safe[-1])
            fan = rests.fan_at(place)
            safe = self._table.safe_in(fan)
        return found, fan

    def _tell_rest(self):
        return cheapest(self._book, self._reading.signs[self._reading.place:])

    def twin(self):
        """An independent copy, with the same calls to take back."""
        copy = SafeFeeder(self._source)
        copy._reading = self._reading
        return copy
