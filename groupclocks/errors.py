"""The errors that the package raises."""


class ClockError(ValueError):
    """What the errors about a value that is not as it should be have in common."""


class InvalidName(ClockError):
    """Something is not the name, or the tuple of names, that it should be."""


class InvalidAction(ClockError):
    """Something is not the action, or the moves of one, that it should be."""


class InvalidSystem(ClockError):
    """Something is no system, or there is no such system."""


class InvalidRun(ClockError):
    """Something is no run, or there is no such run."""


class InvalidClocks(ClockError):
    """Something is not the clocks, or the groups or carriers of some, that it should be."""


class InvalidOperation(ClockError):
    """Something cannot be done with this value."""


class ParseError(ClockError):
    """A text is not like it should be: in the line with this index, or as a whole for None."""

    def __init__(self, line):
        ClockError.__init__(self, f"cannot be read: {line!r}")
        self.line = line


class UnknownName(KeyError):
    """Something is wanted by a name that nothing has."""

    def __init__(self, wanted):
        KeyError.__init__(self, f"no such name: {wanted!r}")
        self.wanted = wanted


class NotPossible(LookupError):
    """The event with this index is not possible behind the earlier ones."""

    def __init__(self, at):
        LookupError.__init__(self, f"not possible: {at!r}")
        self.at = at


class NothingToUndo(IndexError):
    """More is to be taken back than there is."""

    def __init__(self, many):
        IndexError.__init__(self, f"not so many to undo: {many!r}")
        self.many = many


class TooMany(OverflowError):
    """There would be more than this limit."""

    def __init__(self, limit):
        OverflowError.__init__(self, f"more than {limit!r}")
        self.limit = limit


class Refused(ArithmeticError):
    """A claim does not hold."""

    def __init__(self, claim):
        ArithmeticError.__init__(self, f"does not hold: {claim!r}")
        self.claim = claim


class InvalidNumber(RuntimeError):
    """Something is not the number, or the index, that it should be."""

    def __init__(self, given):
        RuntimeError.__init__(self, f"no such number: {given!r}")
        self.given = given
