"""The errors of the package."""


class CutError(ValueError):
    """A value is not what a function or a class asks for."""


class InvalidText(CutError):
    """A text or a piece is not one, or not one of the book."""


class InvalidBook(CutError):
    """A book is not one, or cannot be made of what was passed."""


class InvalidCutter(CutError):
    """A cutter is not one, or cannot be made of what was passed."""


class InvalidStand(CutError):
    """A front, a stand or the like is not one."""


class InvalidMenu(CutError):
    """A menu cannot be made of what was passed."""


class InvalidOperation(CutError):
    """An operation is not possible with what it is given."""


class ParseError(CutError):
    """A text cannot be read from the line with this index on."""

    def __init__(self, line):
        super().__init__("the text cannot be read")
        self.line = line


class UnknownPiece(KeyError):
    """A value is no piece of the book."""

    def __init__(self, piece):
        super().__init__("no such piece is in the book")
        self.piece = piece


class UnknownText(LookupError):
    """No text has this name."""

    def __init__(self, name):
        super().__init__("no text has this name")
        self.name = name


class NothingToUndo(IndexError):
    """There are fewer steps than should be undone."""

    def __init__(self, many):
        super().__init__("there is nothing left to undo")
        self.many = many


class TooMany(OverflowError):
    """More than the limit are reached."""

    def __init__(self, limit):
        super().__init__("there are more than the limit")
        self.limit = limit


class TooFar(ArithmeticError):
    """A number goes too far."""

    def __init__(self, number):
        super().__init__("the number goes too far")
        self.number = number


class InvalidNumber(RuntimeError):
    """A number is not one that is asked for."""

    def __init__(self, value):
        super().__init__("the number is not as asked for")
        self.value = value
