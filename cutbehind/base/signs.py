"""Integers, signs, texts and pieces, told apart from all other values."""

MAX_SIGNS = 8000
MAX_LENGTH = 5
# The least integer of more than sixty digits.
TOO_GREAT = 10 ** 60


def is_integer(value):
    """Whether the value is an integer of at most sixty digits."""
    return isinstance(value, int) and not isinstance(value, bool) and -TOO_GREAT < value < TOO_GREAT


def are_integers(numbers):
    """Whether all values of a list or a tuple are integers of at most sixty digits."""
    for number in numbers:
        if type(number) is not int or not -TOO_GREAT < number < TOO_GREAT:
            return False
    return True


def is_sign(value):
    """Whether the value is a string of one letter a to z."""
    return is_text(value) and len(value) == 1


def is_text(value):
    """Whether the value is a string of at most 8000 letters a to z."""
    if not isinstance(value, str) or len(value) > MAX_SIGNS:
        return False
    # The test of letters below refuses the empty string, which is a text.
    return value == "" or (value.isascii() and value.isalpha() and value.islower())


def is_piece(value):
    """Whether the value is a text of one to five signs."""
    return is_text(value) and 1 <= len(value) <= MAX_LENGTH
