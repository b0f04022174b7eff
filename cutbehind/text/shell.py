"""A shell: commands in lines, answers in texts."""

from cutbehind.bounds.excess import greatest_excess
from cutbehind.bounds.fractions import fraction_paper
from cutbehind.bounds.lengths import worst_by_length
from cutbehind.cuts.cuts import cheapest, cheapest_price
from cutbehind.errors import InvalidNumber, InvalidText, NothingToUndo, TooMany, UnknownText
from cutbehind.live.shelf import Shelf
from cutbehind.pairs.edits import meets_within
from cutbehind.text.texts import is_number, is_word, read_cutter
from cutbehind.view.least import least_view, minimal_windows
from cutbehind.view.safe import safe_pieces


def _joined(pieces):
    return " ".join(pieces) if pieces else "none"


def _cut(cutter, shelf, words):
    return f"{_joined(cutter.cut(words[0]))} for {cutter.price(words[0])}"


def _cheapest(cutter, shelf, words):
    pieces = cheapest(cutter.book, words[0])
    return f"{_joined(pieces)} for {cheapest_price(cutter.book, words[0])}"


def _behind(cutter, shelf, words):
    return str(cutter.behind(words[0]))


def _safe(cutter, shelf, words):
    return _joined(safe_pieces(cutter.book, words[0]))


def _excess(cutter, shelf, words):
    greatest = greatest_excess(cutter)
    if greatest is None:
        return "behind without bound"
    return f"behind by at most {greatest}" if greatest > 0 else "never behind"


def _fraction(cutter, shelf, words):
    paper = fraction_paper(cutter)
    p, q = paper[1]
    return f"{p}/{q} {paper[0]}"


def _view(cutter, shelf, words):
    least = least_view(cutter.book)
    return "none" if least is None else str(least)


def _windows(cutter, shelf, words):
    windows = minimal_windows(cutter.book)
    return "none" if windows is None else "\n".join(windows)


def _meets(cutter, shelf, words):
    number = meets_within(cutter)
    return "none" if number is None else str(number)


def _row(cutter, shelf, words):
    return " ".join([str(number) for number in worst_by_length(cutter, int(words[0]))])


def _put(cutter, shelf, words):
    text = words[1] if len(words) > 1 else ""
    shelf.put(words[0], text)
    return _cut(cutter, shelf, [text])


def _edit(cutter, shelf, words):
    signs = words[3] if len(words) > 3 else ""
    index, gone, came = shelf.edit(words[0], int(words[1]), int(words[2]), signs)
    return f"at {index}: {_joined(gone)} gone, {_joined(came)} came"


def _drop(cutter, shelf, words):
    shelf.drop(words[0])
    return "done"


def _undo(cutter, shelf, words):
    shelf.undo()
    return "done"


def _redo(cutter, shelf, words):
    shelf.redo()
    return "done"


def _shown(name, text, price):
    """The line of a text on the shelf; the empty text leaves no second blank."""
    return f"{name} {text} for {price}" if text else f"{name} for {price}"


def _list(cutter, shelf, words):
    rows = [_shown(name, shelf[name], shelf.price(name)) for name in shelf.names]
    return "\n".join(rows) if rows else "none"


# For each command, and for the kinds of the words behind it (w: letters, n: an integer), what it does.
COMMANDS = {
    ("cut", "w"): _cut,
    ("cheapest", "w"): _cheapest,
    ("behind", "w"): _behind,
    ("safe", "w"): _safe,
    ("excess", ""): _excess,
    ("fraction", ""): _fraction,
    ("view", ""): _view,
    ("windows", ""): _windows,
    ("meets", ""): _meets,
    ("row", "n"): _row,
    ("put", "w"): _put,
    ("put", "ww"): _put,
    ("edit", "wnn"): _edit,
    ("edit", "wnnw"): _edit,
    ("drop", "w"): _drop,
    ("undo", ""): _undo,
    ("redo", ""): _redo,
    ("list", ""): _list,
}


def _kind_of(word):
    if is_word(word):
        return "w"
    return "n" if is_number(word) else "?"


class Shell:
    """A cutter, its book and a shelf, asked in lines."""

    def __init__(self, text):
        self._cutter = read_cutter(text)
        self._shelf = Shelf(self._cutter)

    def shelf(self):
        """An independent shelf with the same texts, and with no changes to take back."""
        return Shelf(self._cutter, texts=self._shelf.texts)

    def run(self, line):
        """The answer to a line."""
        if not isinstance(line, str):
            return "what"
        words = line.split(" ")
        kinds = "".join([_kind_of(word) for word in words[1:]])
        action = COMMANDS.get((words[0], kinds))
        if action is None:
            return "what"
        try:
            return action(self._cutter, self._shelf, words[1:])
        except InvalidText:
            return "text"
        except UnknownText as missing:
            return f"unknown {missing.name}"
        except InvalidNumber as wrong:
            return f"number {wrong.value}"
        except NothingToUndo as nothing:
            return f"undo {nothing.many}"
        except TooMany as limited:
            return f"many {limited.limit}"

    def __call__(self, line):
        return self.run(line)
