"""Books and cutters as texts, of which each value has just one."""

from cutbehind.base.books import Book
from cutbehind.base.checks import check_book
from cutbehind.cuts.cutters import Cutter, check_cutter
from cutbehind.errors import ParseError

# For each kind of line the kinds that may follow it; at first there is none.
FOLLOWING = {
    "": ("piece",),
    "piece": ("piece", "order"),
    "order": ("view",),
    "view": ("table", "end"),
    "table": ("table", "end"),
    "end": ("end",),
}


def _lines_of(text):
    if not isinstance(text, str):
        raise ParseError(None)
    return [line.split(" ") for line in text.split("\n")]


def is_word(string):
    """Whether the string is of one or more letters a to z."""
    return string.isascii() and string.isalpha() and string.islower()


def is_number(string):
    """Whether the string is an integer of at most sixty digits, as str writes it."""
    digits = string.removeprefix("-")
    # The length comes first: Python refuses to read very long integers.
    if not digits.isascii() or not digits.isdigit() or len(digits) > 60:
        return False
    return str(int(string)) == string


def _has_form(words):
    """Whether these are the words of a line of a cutter."""
    if words[0] in ("piece", "table", "end"):
        if len(words) != 3 or not is_word(words[1]):
            return False
        return is_number(words[2]) if words[0] == "piece" else is_word(words[2])
    if words[0] == "order":
        return len(words) > 1 and all([is_word(word) for word in words])
    return words[0] == "view" and len(words) == 2 and is_number(words[1])


def _check_lines(lines):
    """Refuses lines that are not those of a cutter, in their order."""
    kind = ""
    last = ""
    for index, words in enumerate(lines):
        if not _has_form(words) or words[0] not in FOLLOWING[kind]:
            raise ParseError(index)
        # Lines of one kind ascend by their texts.
        if words[0] == kind and words[1] <= last:
            raise ParseError(index)
        kind = words[0]
        last = words[1]
    if kind in ("piece", "order"):
        raise ParseError(len(lines))


def write_book(book):
    """The text of a book."""
    check_book(book)
    return "\n".join([f"{piece} {price}" for piece, price in book.prices.items()])


def write_cutter(cutter):
    """The text of a cutter."""
    check_cutter(cutter)
    pieces = [f"piece {piece} {price}" for piece, price in cutter.book.prices.items()]
    order = " ".join(cutter.order)
    table = [f"table {text} {piece}" for text, piece in cutter.table.items()]
    ends = [f"end {text} {piece}" for text, piece in cutter.ends.items()]
    return "\n".join([*pieces, f"order {order}", f"view {cutter.view}", *table, *ends])


def read_book(text):
    """The book with this text."""
    prices = {}
    last = ""
    for index, words in enumerate(_lines_of(text)):
        if len(words) != 2 or not is_word(words[0]) or not is_number(words[1]):
            raise ParseError(index)
        if words[0] <= last:
            raise ParseError(index)
        last = words[0]
        prices[last] = int(words[1])
    return Book(prices)


def read_cutter(text):
    """The cutter with this text."""
    lines = _lines_of(text)
    _check_lines(lines)
    prices = {words[1]: int(words[2]) for words in lines if words[0] == "piece"}
    order = [tuple(words[1:]) for words in lines if words[0] == "order"]
    view = [int(words[1]) for words in lines if words[0] == "view"]
    table = {words[1]: words[2] for words in lines if words[0] == "table"}
    ends = {words[1]: words[2] for words in lines if words[0] == "end"}
    return Cutter(Book(prices), order[0], view=view[0], table=table, ends=ends)
