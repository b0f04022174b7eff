"""How soon the boundaries of two texts meet behind an edit, for all texts.

Two readers cut alike; the one has read old, the other new, and both go on with the same rest. A boundary is told by its
distance: the number of signs from it to the end of what was read. Distances are kept as the bits of an integer.
"""

from cutbehind.base.reach import NOWHERE, found_once, ring_beyond, settled_places
from cutbehind.stands.waits import do_many_wait, waits_of


class Meeting:
    """The greatest least common boundary, and texts that have it: old, new, and the rest.

    If there is none, the number is None, and the rest can be said ever again without a common boundary.
    """

    def __init__(self, number, old, new, rest):
        self.number = number
        self.old = old
        self.new = new
        self.rest = rest


def _short_texts(cutter):
    """All texts with fewer signs than the view."""
    found = [""]
    done = 0
    while done < len(found):
        if len(found[done]) + 1 < cutter.view:
            found.extend([found[done] + sign for sign in cutter.book.alphabet])
        done = done + 1
    return found


def _distances_at_end(cutter, waiting):
    """The boundaries of what waits if the text ends there."""
    distance = len(waiting)
    bits = 1 << distance
    for piece in cutter.pieces_for(waiting, True):
        distance = distance - len(piece)
        bits = bits | (1 << distance)
    return bits


class Search:
    """A search for the greatest least common boundary; texts are all those with fewer signs than the view."""

    def __init__(self, cutter, texts):
        self._signs = cutter.book.alphabet
        self._view = cutter.view
        self._waits = waits_of(cutter)
        self._texts = texts
        self._ended = {text: _distances_at_end(cutter, text) for text in texts}
        self._best = Meeting(-1, "", "", "")
        # The states behind rests of as many signs as the view less one, where no common boundary was met so far.
        self._starts = {}

    def meeting(self):
        """The meeting for all texts."""
        rows = {"": [(text, 0) for text in self._texts]}
        for many in range(1, self._view):
            for rest, row in rows.items():
                self._end_all(rest, row)
            rows = self._read_all(rows, many)
        for rest, row in rows.items():
            self._go_on_from(rest, row)
        return self._search_states()

    def _read_all(self, rows, many):
        """The readers behind each rest with one more sign, the sign number many."""
        further = {}
        for rest, row in rows.items():
            for index, sign in enumerate(self._signs):
                further[rest + sign] = self._read(row, index, many)
        return further

    def _read(self, row, index, many):
        """What waits in each reader, and its told boundaries, when the sign number many of the rest is read."""
        read = []
        for waiting, told in row:
            left = self._waits.left_after(waiting)[index]
            told = told << 1
            # The piece that is told begins at the boundary behind which signs waited; it can lie before the rest.
            if len(left) <= len(waiting) < many:
                told = told | (1 << (len(waiting) + 1))
            read.append((left, told))
        return read

    def _keep(self, number, old, new, rest):
        if number > self._best.number:
            self._best = Meeting(number, old, new, rest)

    def _end_all(self, rest, row):
        """Tries all pairs of readers if the text ends behind this rest."""
        many = len(rest)
        readers = {}
        for text, (waiting, told) in zip(self._texts, row):
            readers[(told | self._ended[waiting]) & ((2 << many) - 1)] = text
        bits = list(readers)
        for place, one in enumerate(bits):
            for other in bits[place:]:
                number = many + 1 - (one & other).bit_length()
                if number > self._best.number:
                    self._keep(number, readers[one], readers[other], rest)

    def _go_on_from(self, rest, row):
        """Tries all pairs of readers behind a rest that is so long that what waits belongs to it."""
        readers = {}
        for text, (waiting, told) in zip(self._texts, row):
            readers[(waiting, told | (1 << len(waiting)))] = text
        known = list(readers)
        for place, (waiting, bits) in enumerate(known):
            old = readers[(waiting, bits)]
            for shorter, other in known[place:]:
                new = readers[(shorter, other)]
                if bits & other:
                    self._keep(len(rest) + 1 - (bits & other).bit_length(), old, new, rest)
                else:
                    self._starts[_state_of(waiting, shorter)] = (old, new, rest)

    def _next_state(self, state, index):
        """The state when a sign is read; and the distance of the common boundary, if the readers meet, else None."""
        longer, many = state
        one = self._waits.left_after(longer)[index]
        other = self._waits.left_after(longer[len(longer) - many:])[index]
        if len(one) == len(other):
            return None, len(one)
        return _state_of(one, other), None

    def _search_states(self):
        """The meeting, with what follows the rests of so many signs."""
        states = list(self._starts)
        places = {state: place for place, state in enumerate(states)}
        targets = []
        while len(targets) < len(states):
            row = []
            for index in range(len(self._signs)):
                state, met = self._next_state(states[len(targets)], index)
                if met is None and state not in places:
                    places[state] = len(states)
                    states.append(state)
                row.append(NOWHERE if met is not None else places[state])
            targets.append(row)
        settled = settled_places(targets)
        if len(settled) < len(states):
            place, indexes = ring_beyond(targets, settled)
            longer, many = states[place]
            v = "".join([self._signs[index] for index in indexes])
            return Meeting(None, longer, longer[len(longer) - many:], v)
        self._go_to_the_end(states, targets, settled)
        return self._best

    def _go_to_the_end(self, states, targets, settled):
        """Tries what follows the rests."""
        # For each state, from what was read on: the greatest least common boundary, and the signs that lead to it.
        ahead = {}
        for place in settled:
            longer, many = states[place]
            common = self._ended[longer] & self._ended[longer[len(longer) - many:]]
            ways = [(1 - common.bit_length(), "")]
            for index, sign in enumerate(self._signs):
                if targets[place][index] != NOWHERE:
                    further, signs = ahead[targets[place][index]]
                    ways.append((further + 1, sign + signs))
                else:
                    ways.append((1 - self._next_state(states[place], index)[1], sign))
            ahead[place] = max(ways, key=lambda way: way[0])
        for place, state in enumerate(states):
            if state in self._starts:
                old, new, rest = self._starts[state]
                further, signs = ahead[place]
                self._keep(len(rest) + further, old, new, rest + signs)


def _state_of(waiting, other):
    """What waits in the reader in which more waits, and how many signs wait in the other one."""
    return (waiting, len(other)) if len(waiting) > len(other) else (other, len(waiting))


def _find_meeting(cutter, limit):
    """The meeting for all texts, or None if more texts than the limit have fewer signs than the view."""
    return None if do_many_wait(cutter, limit) else Search(cutter, _short_texts(cutter)).meeting()


def meeting_of(cutter, limit):
    """The meeting of the cutter, which is found once."""
    return found_once(cutter.kept, "meeting", lambda: _find_meeting(cutter, limit), limit)
