"""The besides of a piece with the texts at which it is not lost, by their numbers, and the steps between them."""

from cutbehind.base.reach import NOWHERE, found_once, reach, sources_of
from cutbehind.fronts.table import FIRST, front_table
from cutbehind.view.besides import NO_LOSS


def _first_beside(book, piece):
    """The number of the piece's front, and the losses of the piece at itself."""
    table = front_table(book)
    front = FIRST
    least = 0
    for sign in piece:
        fronts, changes, _, _ = table.row_at(front)
        index = book.alphabet.index(sign)
        least = least + changes[index]
        front = fronts[index]
    return front, (book[piece] - least,) + (NO_LOSS,) * (book.longest - 1)


def _next_besides(table, beside):
    """For each sign the next beside, or None if the piece is then lost; a piece that is lost stays lost."""
    front, losses = beside
    kept = losses[:-1]
    has_none = 0 in kept
    fronts, changes, differences, endings = table.row_at(front)
    row = []
    for further, change, (_, price, longer) in zip(fronts, changes, endings):
        first = losses[0]
        # If no longer piece ends there, the price of the sign is the change.
        if longer:
            first = first + price
            for back, cost in longer:
                if losses[back] != NO_LOSS and cost + differences[back - 1] + losses[back] < first:
                    first = cost + differences[back - 1] + losses[back]
            first = first - change
        row.append((further, (first,) + kept) if has_none or first == 0 else None)
    return row


def _ways_to_a_loss(losses, targets):
    """For each place the number of signs of a shortest continuation against the piece, or None if it is safe."""
    far = [0 if loss > 0 else None for loss in losses]
    queue = [place for place, many in enumerate(far) if many == 0]
    for place, row in enumerate(targets):
        if far[place] is None and NOWHERE in row:
            far[place] = 1
            queue.append(place)
    sources = sources_of(targets)
    done = 0
    while done < len(queue):
        place = queue[done]
        done = done + 1
        for source in sources[place]:
            if far[source] is None:
                far[source] = far[place] + 1
                queue.append(source)
    return far


class Track:
    """What happens to a piece while the text behind it is read, by the places of the besides until it is lost.

    The place of the piece itself is start. At each place, there is a node, which is the number of the front and the
    losses; targets are the places that follow, and far is the number of signs of a shortest continuation against the
    piece, or None if it is safe.
    """

    def __init__(self, book, piece, nodes, targets):
        self._table = front_table(book)
        self._signs = book.alphabet
        self._indexes = {sign: index for index, sign in enumerate(book.alphabet)}
        self._besides = []
        self._places = {}
        self.piece = piece
        self.start = 0 if nodes else NOWHERE
        self.nodes = nodes
        self.targets = targets
        self.far = _ways_to_a_loss([losses[0] for front, losses in nodes], targets)

    def place_from(self, place, signs):
        """The place to which the signs lead from a place on."""
        for sign in signs:
            if place == NOWHERE:
                break
            place = self.targets[place][self._indexes[sign]]
        return place

    def place_behind(self, text):
        """The place to which a text leads that begins with the piece."""
        return self.place_from(self.start, text[len(self.piece):])

    def has_loss_at(self, place):
        """Whether the piece has a loss at the texts that lead to this place."""
        return self._far_at(place) == 0

    def is_safe_at(self, place):
        """Whether the piece is safe at the texts that lead to this place."""
        return place != NOWHERE and self.far[place] is None

    def continuation(self, place):
        """The first shortest continuation against the piece from a place on, or None."""
        if self.is_safe_at(place):
            return None
        signs = []
        while self._far_at(place) > 0:
            near = self._far_at(place) - 1
            ways = [index for index, target in enumerate(self.targets[place]) if self._far_at(target) == near]
            signs.append(self._signs[ways[0]])
            place = self.targets[place][ways[0]]
        return "".join(signs)

    def _far_at(self, place):
        return 0 if place == NOWHERE else self.far[place]

    def besides(self):
        """The besides, in the order of their places."""
        if not self._besides:
            self._besides = [(self._table.front_at(front), losses) for front, losses in self.nodes]
            self._places = {beside: place for place, beside in enumerate(self._besides)}
        return self._besides

    def place_of(self, beside):
        """The place of a value with the form of a beside, or NOWHERE."""
        # The places are known as soon as the besides were asked for.
        if not self._places:
            self.besides()
        return self._places.get(beside, NOWHERE)

    def places_from(self, place):
        """The places to which texts lead from a place on, at which the piece is safe."""
        seen = {place: True}
        queue = [place]
        done = 0
        while done < len(queue):
            row = self.targets[queue[done]]
            done = done + 1
            for target in row:
                if target not in seen:
                    seen[target] = True
                    queue.append(target)
        return queue


def _find_track(book, piece, limit):
    """The track of the piece, or None if it has more besides than the limit."""
    table = front_table(book)
    first = _first_beside(book, piece)
    if first[1][0] > 0:
        return Track(book, piece, [], [])
    found = reach(first, book.alphabet, lambda beside: _next_besides(table, beside), limit)
    return None if found is None else Track(book, piece, found.nodes, found.targets)


def track_of(book, piece, limit):
    """The track of the piece, which is found once."""
    return found_once(book.kept, piece, lambda: _find_track(book, piece, limit), limit)
