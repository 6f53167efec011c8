"""The lines in which values are written. What reads a line returns None if it is not like those told for its place."""

from groupclocks.base.words import is_name, read_names, write_names
from groupclocks.errors import ParseError

MAX_DIGITS = 60


def lines_of(text):
    """The lines of a text."""
    if not isinstance(text, str):
        raise ParseError(None)
    return text.split("\n")


def write_numbers(numbers):
    """The numbers with single blanks between them, or a dash for none."""
    return " ".join([str(number) for number in numbers]) if numbers else "-"


def read_numbers(text):
    """The tuple of numbers with this text, or None."""
    return () if text == "-" else _integers(text.split(" "))


def write_event(event):
    """The line of an event."""
    name, members = event
    return " ".join([name, *[str(number) for number in members]])


def read_event(line):
    """The event, of any system, with this line, or None."""
    words = line.split(" ")
    members = _integers(words[1:])
    return (words[0], members) if is_name(words[0]) and members is not None else None


def write_parts(pattern):
    """The line of a pattern."""
    parts = [" ".join([str(word) for word in entry]) for part in pattern for entry in part]
    return ", ".join(parts) if parts else "-"


def read_parts(line):
    """The pattern, perhaps of no system, with this line, or None."""
    lone, shared = [], []
    parts = [] if line == "-" else line.split(", ")
    for part in parts:
        words = part.split(" ")
        number = _integer(words[2]) if len(words) == 3 else None
        if not all([is_name(word) for word in words[:2]]):
            return None
        if len(words) == 2 and not shared:
            lone.append((words[0], words[1]))
        elif number is not None:
            shared.append((words[0], words[1], number))
        else:
            return None
    return tuple(lone), tuple(shared)


def write_words(claim):
    """The line of a claim."""
    word, parts = claim[0], claim[1:]
    if word == "barred":
        return f"{word} {write_parts(parts[0])}"
    if word == "ordered":
        return " ".join(claim)
    return f"{word} " + ", ".join([part if isinstance(part, str) else write_names(part) for part in parts])


def read_words(line):
    """The claim, perhaps of no system, with this line, or None."""
    word, _, rest = line.partition(" ")
    parts = None
    if word == "ordered":
        parts = read_pair(rest)
    elif word == "group":
        parts = _read_rows(rest, 1)
    elif word == "barred":
        pattern = read_parts(rest)
        parts = None if pattern is None else (pattern,)
    elif word == "enough":
        parts = _read_rows(rest, 3)
    elif word in ("always", "never"):
        parts = _read_names_and_name(rest)
    return None if parts is None else (word, *parts)


def read_pair(text):
    """The two names with this text, or None."""
    words = tuple(text.split(" "))
    return words if len(words) == 2 and all([is_name(word) for word in words]) else None


def read_row(text):
    """The tuple of names with this text, or None."""
    try:
        return read_names(text)
    except ParseError:
        return None


def read_two_rows(text):
    """The two tuples of names with this text, or None."""
    return _read_rows(text, 2)


def _read_rows(text, many):
    """The so many tuples of names with this text, or None."""
    rows = [read_row(part) for part in text.split(", ")]
    return tuple(rows) if len(rows) == many and None not in rows else None


def _read_names_and_name(text):
    """A tuple of names and another name with this text, or None."""
    parts = text.split(", ")
    if len(parts) != 2 or not is_name(parts[1]):
        return None
    names = read_row(parts[0])
    return None if names is None else (names, parts[1])


def _integers(words):
    """The tuple of the integers with these texts, or None if one is none."""
    found = [_integer(word) for word in words]
    return None if None in found else tuple(found)


def _integer(word):
    """The integer with this text, as str writes it, or None."""
    digits = word[1:] if word[:1] == "-" else word
    if not 1 <= len(digits) <= MAX_DIGITS or not all(["0" <= digit <= "9" for digit in digits]):
        return None
    # Zeros ahead, and a sign of zero, are not as written.
    if digits[0] == "0" and word != "0":
        return None
    return int(word)
