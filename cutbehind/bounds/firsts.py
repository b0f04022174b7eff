"""Shortest texts for which the one side pays more than the other."""

NO_LINK = -1


def _text_of(signs, links, link):
    """The signs of the links from a last one back to the first."""
    found = []
    while link != NO_LINK:
        link, index = links[link]
        found.append(signs[index])
    return "".join(found[::-1])


def first_text_above(graph):
    """A shortest text for which the one side pays more than the other, or None.

    Going on sign by sign, only places count where more has come together than by any shorter text.
    """
    rows = graph.weights(1, 1)
    finals = graph.final_weights(1, 1)
    best = {0: 0}
    links = []
    layer = [(0, 0, NO_LINK)]
    while layer:
        raised = {}
        for place, total, link in layer:
            for index, (target, weight) in enumerate(rows[place]):
                if target not in best or total + weight > best[target]:
                    best[target] = total + weight
                    raised[target] = len(links)
                    links.append((link, index))
        for place, link in raised.items():
            if best[place] + finals[place] > 0:
                return _text_of(graph.signs, links, link)
        layer = [(place, best[place], link) for place, link in raised.items()]
    return None
