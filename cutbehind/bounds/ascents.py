"""Greatest sums of weights along texts, by the places of a graph."""

START = -1


def _ring_place(before, starts):
    """A place to which the steps back from one of the starts return, or None."""
    seen = {}
    for start in starts:
        place = start
        while place in before and place not in seen:
            seen[place] = start
            place = before[place][0]
        if place in before and seen[place] == start:
            return place
    return None


class Ascent:
    """For each place the greatest sum of q times what the one side pays minus p times what the other side pays.

    The sums are those of the texts of at least one sign. If they grow along a ring, ring is a place on it.
    """

    def __init__(self, graph, p, q):
        self.sums = {}
        self.ring = None
        self._graph = graph
        self._before = {}
        self._finals = graph.final_weights(p, q)
        self._climb(graph.weights(p, q))

    def _raise_targets(self, place, row):
        """Raises the sums to which the steps from a place lead; returns the places whose sums were raised."""
        base = 0 if place == START else self.sums[place]
        raised = []
        for index, (target, weight) in enumerate(row):
            if target not in self.sums or base + weight > self.sums[target]:
                self.sums[target] = base + weight
                self._before[target] = (place, index)
                raised.append(target)
        return raised

    def _climb(self, rows):
        """Raises the sums until none can be raised, or until a ring is found."""
        # Steps are tried again only from places whose sums were raised.
        waiting = [False] * len(rows)
        raised = {target: True for target in self._raise_targets(START, rows[0])}
        for target in raised:
            waiting[target] = True
        while raised and self.ring is None:
            raised = {}
            for place, row in enumerate(rows):
                if waiting[place]:
                    waiting[place] = False
                    for target in self._raise_targets(place, row):
                        waiting[target] = True
                        raised[target] = True
            # Only a place whose sum was raised can have closed a ring.
            if _ring_place(self._before, list(raised)) is not None:
                self.ring = _ring_place(self._before, list(self._before))

    def _text_between(self, start, stop):
        """The signs of the steps from a place, or from before the first sign, to another one."""
        signs = []
        place = stop
        while not signs or place != start:
            place, index = self._before[place]
            signs.append(self._graph.signs[index])
        return "".join(signs[::-1])

    def text_to(self, place):
        """A text with the greatest sum; there is no ring."""
        return self._text_between(START, place)

    def ring_texts(self):
        """A text to the ring, and one along the whole ring."""
        return self._graph.shortest[self.ring], self._text_between(self.ring, self.ring)

    def best(self):
        """The greatest sum with what is paid at the end, and the first place at which it is."""
        greatest = max([self.sums[place] + self._finals[place] for place in self.sums])
        places = [place for place in self.sums if self.sums[place] + self._finals[place] == greatest]
        return greatest, places[0]
