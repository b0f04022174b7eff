"""The reached stands of a cutter by their numbers, and the steps between them."""

from cutbehind.cuts.cutters import check_cutter
from cutbehind.stands.stands import MAX_STANDS
from cutbehind.stands.steps import has_form_of_stand, prices_at_end, reached_stands, stand_step


class Graph:
    """The stands of a cutter, of which number 0 is that of the empty text."""

    def __init__(self, cutter):
        check_cutter(cutter)
        found = reached_stands(cutter, MAX_STANDS)
        self._cutter = cutter
        self.signs = cutter.book.alphabet
        self.stands = list(found)
        self.shortest = list(found.values())
        self.places = {stand: place for place, stand in enumerate(self.stands)}
        self.steps = [self._steps_from(stand) for stand in self.stands]
        ends = prices_at_end(cutter, [waiting for front, waiting in self.stands])
        self.end_prices = [ends[waiting] for front, waiting in self.stands]

    def _steps_from(self, stand):
        """For each sign the number of the next stand, the price that is told, and the change of the least price."""
        steps = []
        for sign in self.signs:
            further, price, change = stand_step(self._cutter, stand, sign)
            steps.append((self.places[further], price, change))
        return steps

    def all_places(self):
        """The numbers of all stands."""
        return list(range(len(self.stands)))

    def places_behind_signs(self):
        """The numbers of the stands of texts of at least one sign."""
        targets = {target: True for steps in self.steps for target, price, change in steps}
        return [place for place in self.all_places() if place in targets]

    def are_keys(self, places, value):
        """Whether the value is a dict from just the stands with these numbers."""
        if not isinstance(value, dict) or len(value) != len(places):
            return False
        # True and 1 are one key of a dict, but only 1 is an integer.
        if not all([has_form_of_stand(self._cutter, stand) for stand in value]):
            return False
        return all([self.stands[place] in value for place in places])
