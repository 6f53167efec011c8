"""Integers, names, and the texts of names."""

from groupclocks.errors import InvalidName, ParseError

MAX_LETTERS = 8
MAX_NAMES = 16

# Integers with at most sixty digits are less, without their sign.
TOO_GREAT = 10 ** 60


def is_integer(value):
    """Whether the value is an integer of at most sixty digits."""
    return isinstance(value, int) and not isinstance(value, bool) and -TOO_GREAT < value < TOO_GREAT


def is_name(value):
    """Whether the value is a string of one to eight letters a to z."""
    if not isinstance(value, str) or not 1 <= len(value) <= MAX_LETTERS:
        return False
    return all(["a" <= letter <= "z" for letter in value])


def is_names(value):
    """Whether the value is a tuple of at most sixteen different names."""
    if not isinstance(value, tuple) or len(value) > MAX_NAMES:
        return False
    return all([is_name(name) for name in value]) and len(set(value)) == len(value)


def write_names(names):
    """The names with single blanks between them, or a dash for none."""
    if not is_names(names):
        raise InvalidName("these are not at most sixteen different names")
    return " ".join(names) if names else "-"


def read_names(text):
    """The tuple of names with this text."""
    if not isinstance(text, str):
        raise ParseError(None)
    names = () if text == "-" else tuple(text.split(" "))
    if not is_names(names):
        raise ParseError(None)
    return names
