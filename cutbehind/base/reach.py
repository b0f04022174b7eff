"""Values that are reached sign by sign."""

from cutbehind.errors import TooMany

# The place of what does not count.
NOWHERE = -1


class Reached:
    """The values that are reached, by the numbers of signs of their shortest texts, and the places of what follows."""

    def __init__(self, first):
        self.nodes = [first]
        self.shortest = [""]
        self.places = {first: 0, None: NOWHERE}
        self.targets = []


def reach(first, signs, follow, limit):
    """All that is reached from the value of the empty text, or None if it is more than the limit.

    follow(value) lists for each sign the next value, or None for one that does not count.
    """
    found = Reached(first)
    nodes, shortest, places, targets = found.nodes, found.shortest, found.places, found.targets
    while len(targets) < len(nodes):
        text = shortest[len(targets)]
        following = follow(nodes[len(targets)])
        row = []
        for sign, value in zip(signs, following):
            place = places.get(value)
            if place is None:
                place = len(nodes)
                if place == limit:
                    return None
                places[value] = place
                nodes.append(value)
                shortest.append(text + sign)
            row.append(place)
        targets.append(row)
    return found


def sources_of(targets):
    """For each place those from which a sign leads to it, once for each such sign."""
    sources = [[] for row in targets]
    for place, row in enumerate(targets):
        for target in row:
            if target != NOWHERE:
                sources[target].append(place)
    return sources


def settled_places(targets):
    """The places from which no ring is reached, each behind all that follow from it."""
    sources = sources_of(targets)
    ways = [len([target for target in row if target != NOWHERE]) for row in targets]
    settled = [place for place, many in enumerate(ways) if many == 0]
    done = 0
    while done < len(settled):
        place = settled[done]
        done = done + 1
        for source in sources[place]:
            ways[source] = ways[source] - 1
            if ways[source] == 0:
                settled.append(source)
    return settled


def ring_beyond(targets, settled):
    """A place on a ring, and the indexes of the signs along the ring; not all places are settled."""
    known = {place: True for place in settled}
    place = [other for other in range(len(targets)) if other not in known][0]
    chosen = []
    passed = {}
    # From a place that is not settled some sign leads to such a place.
    while place not in passed:
        passed[place] = len(chosen)
        row = targets[place]
        ways = [index for index, target in enumerate(row) if target != NOWHERE and target not in known]
        chosen.append(ways[0])
        place = row[ways[0]]
    return place, chosen[passed[place]:]


def found_once(kept, key, find, limit):
    """What find() gives, which is kept under the key; it gives None for more than the limit."""
    if key not in kept:
        kept[key] = find()
    if kept[key] is None:
        raise TooMany(limit)
    return kept[key]
