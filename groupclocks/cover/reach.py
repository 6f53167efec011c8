"""What is reachable, in rounds of patterns, and certificates that show it."""

from groupclocks.base.checks import is_ascending
from groupclocks.base.systems import MAX_SHARED
from groupclocks.cover.fields import greatest_number, plain_places, plain_step
from groupclocks.cover.patterns import does_match, is_target, start_row
from groupclocks.cover.search import Part, Walk, is_covered
from groupclocks.errors import InvalidOperation, InvalidRun, TooMany
from groupclocks.runs.runs import is_numbers, run_or_none

MAX_ROUND = 400
MAX_CLOSED = 2000

# How many searches are kept with a system.
_MAX_KEPT = 64


class Rounds:
    """The search, backwards in rounds, from where a target is reachable with some of the actions of a system."""

    def __init__(self, system, names, target):
        self._system = system
        # In each round, the patterns ahead ask for at most so many members more than those behind them.
        most = greatest_number((target,)) + MAX_SHARED * (MAX_ROUND + 1)
        self.fields = plain_places(system).fields_for(most)
        self._part = Part(self.fields, MAX_ROUND)
        # The rounds up to the last one, as integers.
        self.levels = []
        self._go_round([plain_step(system, self.fields, name) for name in names], target)
        # For each row of a pattern of the last round that can fit the start, such a pattern.
        self._starts = {self._row(number): number for number in self._part.fitting_start()}
        self.least_rows = _least_rows(list(self._starts))

    def closed_patterns(self):
        """The patterns of the last round, which is the least closed set."""
        return _told_rounds(self.fields, self.levels[-1:])[0]

    def run_from(self, row, numbers):
        """A run that matches the target, with these numbers, which are not less than this one of the rows."""
        steps, _ = self._part.way(self._starts[row])
        walk = Walk(self._system, numbers)
        for step in steps:
            walk.go(step.action, step.befores, step.behinds)
        return walk.run()

    def run_of_fewest(self):
        """A run that matches the target, with as few members as possible; there must be one."""
        row = min(self.least_rows, key=sum)
        return self.run_from(row, row)

    def certificate(self):
        """A certificate for the target."""
        if not self.least_rows:
            return "closed", self.closed_patterns()
        run = self.run_of_fewest()
        return "run", run.numbers, run.events

    def _go_round(self, steps, target):
        """Go through the rounds up to the last one."""
        part = self._part
        part.take({self.fields.number_of(target): None})
        while part.fresh:
            self.levels.append(part.lowest)
            if len(self.levels) > MAX_ROUND + 1 or len(part.lowest) > MAX_ROUND:
                raise TooMany(MAX_ROUND)
            part.take(part.found_ahead(steps))

    def _row(self, number):
        """The row of the pattern with this integer."""
        return start_row(self._system, self.fields.pattern_of(number))


class Reach:
    """From where a target is reachable, and how. It never changes."""

    def __init__(self, system, target):
        _check_target(system, target)
        self._system = system
        self._target = target
        self._found = rounds_of(system, system.names, target)
        self._told = None

    @property
    def system(self):
        """The system."""
        return self._system

    @property
    def target(self):
        """The target."""
        return self._target

    @property
    def rounds(self):
        """The rounds up to the last one."""
        if self._told is None:
            self._told = _told_rounds(self._found.fields, self._found.levels)
        return self._told

    @property
    def closed(self):
        """The last round, which is the least closed set."""
        return self._found.closed_patterns()

    @property
    def rows(self):
        """The least numbers of members with which the target is reachable, ascending."""
        return self._found.least_rows

    @property
    def fewest(self):
        """The least number of members in all with which the target is reachable, or None."""
        return min([sum(row) for row in self._found.least_rows], default=None)

    @property
    def steps(self):
        """The least number of events with which the target is reachable, or None."""
        for many, numbers in enumerate(self._found.levels):
            if any([self._found.fields.can_fit_start(number) for number in numbers]):
                return many
        return None

    @property
    def is_reachable(self):
        """Whether some run matches the target."""
        return len(self._found.least_rows) > 0

    def run(self, *, numbers=None):
        """A run that matches the target, with just these numbers, or with as few members as possible."""
        if numbers is not None and not is_numbers(self._system, numbers):
            raise InvalidRun("these are no numbers")
        fitting = [row for row in self.rows if numbers is None or _is_row_below(row, numbers)]
        if not fitting:
            raise InvalidOperation("no such run matches the target")
        row = min(fitting, key=sum)
        return self._found.run_from(row, row if numbers is None else numbers)

    def certificate(self):
        """A certificate for the target."""
        return self._found.certificate()

    def __contains__(self, value):
        fields = self._found.fields
        return fields.places.has_pattern(value) and fields.is_above_any(fields.number_of(value), self._found.levels[-1])

    def __len__(self):
        return len(self._found.levels[-1])

    def __eq__(self, other):
        return isinstance(other, Reach) and self._system == other._system and self._target == other._target

    def __str__(self):
        return f"reach of {len(self._found.levels[-1])} patterns in {len(self._found.levels) - 1} rounds"


def is_closed(system, target, value):
    """Whether the value is an ascending tuple of patterns that are closed for the target, and not too many."""
    _check_target(system, target)
    return are_closed(system, system.names, target, value)


def is_certificate(system, target, value):
    """Whether the value is a certificate for the target."""
    _check_target(system, target)
    names = system.names
    return is_closed_form(system, names, target, value) or is_run_form(system, names, target, value)


def is_closed_form(system, names, target, value):
    """Whether the value is a certificate that the target is not reachable with these actions."""
    if not isinstance(value, tuple) or len(value) != 2 or value[0] != "closed":
        return False
    return are_closed(system, names, target, value[1]) and not can_any_fit(system, value[1])


def is_run_form(system, names, target, value):
    """Whether the value is a certificate that the target is reachable with these actions."""
    run = run_in_form(system, value)
    if run is None or any([name not in names for name, _ in run.events]):
        return False
    return does_match(run, target)


def run_in_form(system, value):
    """The run of a value like a certificate of one, or None if there is none."""
    if not isinstance(value, tuple) or len(value) != 3 or value[0] != "run":
        return None
    return run_or_none(system, value[1], value[2])


def are_closed(system, names, target, value):
    """Whether the value is an ascending tuple of patterns, not too many, that are closed with these actions alone."""
    places = plain_places(system)
    if not are_patterns(places, value):
        return False
    fields = places.fields_for(greatest_number((target, *value)) + MAX_SHARED)
    numbers = [fields.number_of(pattern) for pattern in value]
    steps = [plain_step(system, fields, name) for name in names]
    return fields.is_above_any(fields.number_of(target), numbers) and is_covered(fields, steps, numbers)


def are_patterns(places, value):
    """Whether the value is an ascending tuple of patterns over these places, and not of too many."""
    if not isinstance(value, tuple) or len(value) > MAX_CLOSED:
        return False
    return places.have_patterns(value) and is_ascending(value)


def can_any_fit(system, patterns):
    """Whether one of the patterns can fit the start."""
    firsts = {owner: states[0] for owner, states in {**system.agents, **system.pools}.items()}
    return any([all([firsts[entry[0]] == entry[1] for entry in [*lone, *shared]]) for lone, shared in patterns])


def _check_target(system, target):
    """Raise an error if this is no target."""
    if not is_target(system, target):
        raise InvalidOperation("this is no target")


def rounds_of(system, names, target):
    """The search for a target with some of the actions of a system.

    Many questions about a system ask for the same few targets, so the latest searches are kept with it.
    """
    kept = system.notes.setdefault("rounds", {})
    if (names, target) not in kept:
        if len(kept) >= _MAX_KEPT:
            kept.clear()
        kept[names, target] = _rounds_or_none(system, names, target)
    if kept[names, target] is None:
        raise TooMany(MAX_ROUND)
    return kept[names, target]


def _rounds_or_none(system, names, target):
    """The search for a target, or None if there are too many patterns."""
    try:
        return Rounds(system, names, target)
    except TooMany:
        return None


def _told_rounds(fields, rounds):
    """The rounds with these integers as tuples of patterns, ascending."""
    different = sorted({number for numbers in rounds for number in numbers})
    told = {number: fields.pattern_of(number) for number in different}
    return tuple([tuple(sorted([told[number] for number in numbers])) for numbers in rounds])


def _is_row_below(row, other):
    """Whether a row is nowhere greater than another one."""
    return all([number <= most for number, most in zip(row, other)])


def _least_rows(rows):
    """Those of different rows that no other one is below, ascending."""
    return tuple(sorted([row for row in rows if sum([_is_row_below(other, row) for other in rows]) == 1]))
