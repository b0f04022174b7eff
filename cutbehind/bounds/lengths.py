"""The worst texts of each length: those at which a cutter is as far behind as at any text of so many signs."""

from cutbehind.base.signs import is_integer
from cutbehind.cuts.cutters import check_cutter
from cutbehind.errors import InvalidNumber
from cutbehind.stands.stands import graph_of

MAX_LENGTHS = 400


class Outlook:
    """By how much a cutter falls behind at most from each place of its graph on, with so many further signs.

    moves has the next places with the weights, and ahead a list of the greatest sums for each number of signs.
    """

    def __init__(self, graph):
        self.moves = graph.weights(1, 1)
        self.ahead = [graph.final_weights(1, 1)]

    def reaches(self, many):
        """Works out the sums for up to so many signs."""
        while len(self.ahead) <= many:
            last = self.ahead[-1]
            self.ahead.append([max([weight + last[target] for target, weight in row]) for row in self.moves])

    def ways(self, place, many):
        """The indexes of the signs that begin a worst text of so many signs from a place on, with the next places."""
        last = self.ahead[many - 1]
        worst = self.ahead[many][place]
        row = self.moves[place]
        return [(index, target) for index, (target, weight) in enumerate(row) if weight + last[target] == worst]


def _outlook_of(graph, many):
    """The outlook of the graph for up to so many signs, of which each is found once."""
    if "outlook" not in graph.kept:
        graph.kept["outlook"] = Outlook(graph)
    outlook = graph.kept["outlook"]
    outlook.reaches(many)
    return outlook


def _outlook_for(cutter, many):
    check_cutter(cutter)
    if not is_integer(many) or not 0 <= many <= MAX_LENGTHS:
        raise InvalidNumber(many)
    return _outlook_of(graph_of(cutter), many)


def worst_by_length(cutter, many):
    """By how much the cutter is behind at most at a text of no sign, of one sign, and so on, up to so many signs."""
    outlook = _outlook_for(cutter, many)
    return tuple([outlook.ahead[length][0] for length in range(many + 1)])


def worst_of_length(cutter, many):
    """A text of so many signs at which the cutter is as far behind as at any of them."""
    outlook = _outlook_for(cutter, many)
    signs = []
    place = 0
    for left in range(many, 0, -1):
        index, place = outlook.ways(place, left)[0]
        signs.append(cutter.book.alphabet[index])
    return "".join(signs)


def _next_counts(outlook, counts, left):
    """The number of ways to each place, if one more sign is read of so many that are left."""
    further = {}
    for place, count in counts.items():
        for index, target in outlook.ways(place, left):
            further[target] = further.get(target, 0) + count
    return further


def count_worst(cutter, many):
    """How many worst texts of so many signs there are."""
    outlook = _outlook_for(cutter, many)
    counts = {0: 1}
    for left in range(many, 0, -1):
        counts = _next_counts(outlook, counts, left)
    return sum(counts.values())


def all_worst(cutter, many):
    """The worst texts of so many signs, ascending."""
    outlook = _outlook_for(cutter, many)
    alphabet = cutter.book.alphabet
    waiting = [("", 0)]
    while waiting:
        text, place = waiting.pop()
        if len(text) == many:
            yield text
        else:
            # The last one is told first.
            ways = outlook.ways(place, many - len(text))
            waiting.extend([(text + alphabet[index], target) for index, target in ways[::-1]])


def is_worst(cutter, value):
    """Whether the value is a worst text of its length, with at most 400 signs."""
    graph = graph_of(cutter)
    if not cutter.book.accepts(value) or len(value) > MAX_LENGTHS:
        return False
    one, other = graph.paid(value)
    return one - other == _outlook_of(graph, len(value)).ahead[len(value)][0]
