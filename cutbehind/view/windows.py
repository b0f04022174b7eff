"""The minimal windows of a book, or a ring of texts at which no piece is safe."""

from cutbehind.base.reach import NOWHERE, found_once, reach, ring_beyond, settled_places
from cutbehind.view.fans import FIRST_FAN, fan_table


class Windows:
    """For each minimal window the pieces that are safe at it, and for each early end those that have no loss at it.

    If no view is enough, both are None, and ring is a pair of texts u and v where uv has the same fan as u.
    """

    def __init__(self, safe, harmless, ring):
        self.safe = safe
        self.harmless = harmless
        self.ring = ring


def _count_windows(targets, settled):
    """How many windows lie behind the empty text; all places are settled."""
    counts = [0] * len(targets)
    for place in settled:
        counts[place] = sum([1 if target == NOWHERE else counts[target] for target in targets[place]])
    return counts[0]


def _list_windows(table):
    """The minimal windows and the early ends, which are finitely many."""
    safe = {}
    harmless = {}
    waiting = [("", FIRST_FAN)]
    while waiting:
        text, fan = waiting.pop()
        if table.safe_in(fan):
            safe[text] = table.safe_in(fan)
            continue
        if text != "":
            harmless[text] = table.harmless_in(fan)
        # The last one is listed first.
        following = list(zip(table.signs, table.next_fans(fan)))
        waiting.extend([(text + sign, further) for sign, further in following[::-1]])
    return Windows(safe, harmless, None)


def _find_windows(book, besides, fans, windows):
    """What is said of the book, or None if there are more fans or windows than these limits."""
    table = fan_table(book, besides)

    def follow(fan):
        return [None if table.safe_in(further) else further for further in table.next_fans(fan)]

    found = reach(FIRST_FAN, book.alphabet, follow, fans)
    if found is None:
        return None
    settled = settled_places(found.targets)
    if len(settled) < len(found.targets):
        place, indexes = ring_beyond(found.targets, settled)
        v = "".join([book.alphabet[index] for index in indexes])
        return Windows(None, None, (found.shortest[place], v))
    return None if _count_windows(found.targets, settled) > windows else _list_windows(table)


def windows_of(book, besides, fans, windows):
    """What is said of the book, which is found once; these are the limits."""
    return found_once(book.kept, "windows found", lambda: _find_windows(book, besides, fans, windows), windows)
