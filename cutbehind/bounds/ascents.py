"""Greatest sums of weights along texts, by the stands of a cutter."""

START = -1


def _raise_targets(ascent, place, steps):
    """Raises the sums to which these steps lead; returns whether there was one to raise."""
    base = 0 if place == START else ascent.sums[place]
    raised = False
    for index, (target, weight) in enumerate(steps):
        if target not in ascent.sums or base + weight > ascent.sums[target]:
            ascent.sums[target] = base + weight
            ascent.before[target] = (place, index)
            raised = True
    return raised


def _weighted(steps, p, q):
    return [(target, q * price - p * change) for target, price, change in steps]


def _ring_place(before):
    """A stand to which the steps back return, or None."""
    seen = {}
    for start in before:
        place = start
        while place in before and place not in seen:
            seen[place] = start
            place = before[place][0]
        if place in before and seen[place] == start:
            return place
    return None


class Ascent:
    """For each stand the greatest sum of q times what is told minus p times the change of the least price.

    The sums are those of the texts of at least one sign. If they grow along a ring, ring is a stand on it.
    """

    def __init__(self, graph, p, q):
        self.graph = graph
        self.sums = {}
        self.before = {}
        self.ring = None
        self._climb([_weighted(steps, p, q) for steps in graph.steps])

    def _climb(self, rows):
        """Raises the sums until none can be raised, or until a ring is found."""
        raised = _raise_targets(self, START, rows[0])
        while raised and self.ring is None:
            raised = False
            for place, row in enumerate(rows):
                if place in self.sums and _raise_targets(self, place, row):
                    raised = True
            self.ring = _ring_place(self.before)

    def _text_between(self, start, stop):
        """The signs of the steps from a stand, or from before the first sign, to another one."""
        signs = []
        place = stop
        while not signs or place != start:
            place, index = self.before[place]
            signs.append(self.graph.signs[index])
        return "".join(signs[::-1])

    def text_to(self, place):
        """A text with the greatest sum; there is no ring."""
        return self._text_between(START, place)

    def ring_texts(self):
        """A text to the ring, and one along the whole ring."""
        return self.graph.shortest[self.ring], self._text_between(self.ring, self.ring)

    def best(self, q):
        """The greatest sum with q times the end price, and the stand at which it is."""
        ends = self.graph.end_prices
        greatest = max([self.sums[place] + q * ends[place] for place in self.sums])
        places = [place for place in self.sums if self.sums[place] + q * ends[place] == greatest]
        return greatest, places[0]
