"""What is reached sign by sign where two sides pay; the stands of a cutter are of this kind."""

from cutbehind.base.reach import found_once, reach
from cutbehind.fronts.table import FIRST, front_table
from cutbehind.stands.waits import do_many_wait, waits_of


class Graph:
    """Nodes by their places, of which 0 is that of the empty text, each with a shortest text.

    For each place steps has a row with a triple for each sign: the next place, and what the one and the other side pay
    at this sign. finals has the pair of what they pay if the text ends there.
    """

    def __init__(self, alphabet, nodes, shortest, steps, finals):
        self.signs = alphabet
        self.nodes = nodes
        self.shortest = shortest
        self.steps = steps
        self.finals = finals
        self.places = {node: place for place, node in enumerate(nodes)}
        self.kept = {}
        self._ascending = ()
        self._indexes = {sign: index for index, sign in enumerate(alphabet)}

    def ascending(self):
        """The nodes, ascending."""
        if not self._ascending:
            self._ascending = tuple(sorted(self.nodes))
        return self._ascending

    def walk(self, text):
        """The place to which a text leads, and what both sides have paid when it may go on."""
        place = 0
        ones = 0
        others = 0
        for sign in text:
            place, one, other = self.steps[place][self._indexes[sign]]
            ones = ones + one
            others = others + other
        return place, ones, others

    def paid(self, text):
        """What both sides pay for the whole text."""
        place, ones, others = self.walk(text)
        one, other = self.finals[place]
        return ones + one, others + other

    def weights(self, p, q):
        """For each place the rows of the next places with q times what the one side pays minus p times the other."""
        return [[(target, q * one - p * other) for target, one, other in row] for row in self.steps]

    def final_weights(self, p, q):
        """For each place q times what the one side pays at the end minus p times what the other side pays."""
        return [q * one - p * other for one, other in self.finals]

    def places_behind_signs(self):
        """The places of the texts of at least one sign, ascending."""
        targets = {target: True for row in self.steps for target, one, other in row}
        return [place for place in range(len(self.nodes)) if place in targets]

    def have_booleans(self, nodes):
        """Whether True or False stands somewhere in values that equal nodes; in strings none does."""
        return False


class StandGraph(Graph):
    """The stands of a cutter; the other side pays the least price of the text."""

    def have_booleans(self, nodes):
        """Whether True or False stands somewhere in values that equal stands."""
        return any([isinstance(number, bool) for front, waiting in nodes for number in front[1]])


def _find_stands(cutter, limit):
    """The stands as pairs of the front's number and what waits, or None if there are too many."""
    if do_many_wait(cutter, limit):
        return None
    table = front_table(cutter.book)
    waits = waits_of(cutter)

    def follow(stand):
        front, waiting = stand
        return list(zip(table.fronts_from(front), waits.left_after(waiting)))

    return reach((FIRST, ""), cutter.book.alphabet, follow, limit)


def _reached_stands(cutter, limit):
    return found_once(cutter.kept, "stands", lambda: _find_stands(cutter, limit), limit)


def check_few_stands(cutter, limit):
    """Refuses a cutter with more stands than the limit."""
    _reached_stands(cutter, limit)


def _stands_in_order(cutter, found):
    """The stands in the order in which they are reached."""
    table = front_table(cutter.book)
    return [(table.front_at(front), waiting) for front, waiting in found.nodes]


def shortest_texts(cutter, limit):
    """A dict from the cutter's stands, ascending, to shortest texts."""
    if "texts of stands" not in cutter.kept:
        found = _reached_stands(cutter, limit)
        texts = dict(zip(_stands_in_order(cutter, found), found.shortest))
        cutter.kept["texts of stands"] = {stand: texts[stand] for stand in sorted(texts)}
    return cutter.kept["texts of stands"]


def _graph_from(cutter, found):
    """The graph of the cutter's stands."""
    table = front_table(cutter.book)
    waits = waits_of(cutter)
    steps = []
    for targets, (front, waiting) in zip(found.targets, found.nodes):
        steps.append(list(zip(targets, waits.told_after(waiting), table.row_at(front)[1])))
    # The changes make up the least price of the whole text, so nothing is added to it at the end.
    finals = [(waits.at_end(waiting), 0) for front, waiting in found.nodes]
    return StandGraph(cutter.book.alphabet, _stands_in_order(cutter, found), found.shortest, steps, finals)


def stand_graph(cutter, limit):
    """The graph of the cutter's stands, which is made once."""
    if "graph" not in cutter.kept:
        cutter.kept["graph"] = _graph_from(cutter, _reached_stands(cutter, limit))
    return cutter.kept["graph"]
