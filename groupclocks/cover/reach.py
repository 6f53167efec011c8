"""What is reachable, in rounds of patterns, and certificates that show it."""

from groupclocks.base.checks import is_ascending
from groupclocks.base.systems import MAX_SHARED
from groupclocks.cover.fields import greatest_number, plain_places, plain_step
from groupclocks.cover.patterns import does_match, is_target, start_row
from groupclocks.cover.search import Part, Walk, is_covered
from groupclocks.errors import InvalidOperation, InvalidRun, TooMany
from groupclocks.runs.runs import is_numbers, run_or_none

MAX_ROUND = 400
MAX_CLOSED = 2000

# How many searches are kept with a system.
_MAX_KEPT = 64


class Reach:
    """From where a target is reachable, and how. It never changes."""

    def __init__(self, system, target):
        _check_target(system, target)
        self._system = system
        self._target = target
        kept = _kept_search(system, target)
        if kept is None:
            raise TooMany(MAX_ROUND)
        self._part, self._rounds = kept
        self._fields = self._part.fields
        # For each row of a pattern of the last round that can fit the start, such a pattern.
        self._starts = {self._row(number): number for number in self._part.fitting_start()}
        self._rows = _least_rows(list(self._starts))
        self._told = None

    @property
    def system(self):
        """The system."""
        return self._system

    @property
    def target(self):
        """The target."""
        return self._target

    @property
    def rounds(self):
        """The rounds up to the last one."""
        if self._told is None:
            self._told = _told_rounds(self._fields, self._rounds)
        return self._told

    @property
    def closed(self):
        """The last round, which is the least closed set."""
        return _told_rounds(self._fields, self._rounds[-1:])[0]

    @property
    def rows(self):
        """The least numbers of members with which the target is reachable, ascending."""
        return self._rows

    @property
    def fewest(self):
        """The least number of members in all with which the target is reachable, or None."""
        return min([sum(row) for row in self._rows], default=None)

    @property
    def steps(self):
        """The least number of events with which the target is reachable, or None."""
        for many, numbers in enumerate(self._rounds):
            if any([self._fields.can_fit_start(number) for number in numbers]):
                return many
        return None

    @property
    def is_reachable(self):
        """Whether some run matches the target."""
        return len(self._rows) > 0

    def run(self, *, numbers=None):
        """A run that matches the target, with just these numbers, or with as few members as possible."""
        if numbers is not None and not is_numbers(self._system, numbers):
            raise InvalidRun("these are no numbers")
        fitting = [row for row in self._rows if numbers is None or _is_row_below(row, numbers)]
        if not fitting:
            raise InvalidOperation("no such run matches the target")
        row = min(fitting, key=sum)
        steps, _ = self._part.way(self._starts[row])
        walk = Walk(self._system, row if numbers is None else numbers)
        for step in steps:
            walk.go(step.action, step.befores, step.behinds)
        return walk.run()

    def certificate(self):
        """A certificate for the target."""
        if not self._rows:
            return "closed", self.closed
        run = self.run()
        return "run", run.numbers, run.events

    def _row(self, number):
        """The row of the pattern with this integer."""
        return start_row(self._system, self._fields.pattern_of(number))

    def __contains__(self, value):
        if not self._fields.places.has_pattern(value):
            return False
        return self._fields.is_above_any(self._fields.number_of(value), self._rounds[-1])

    def __len__(self):
        return len(self._rounds[-1])

    def __eq__(self, other):
        return isinstance(other, Reach) and self._system == other._system and self._target == other._target

    def __str__(self):
        return f"reach of {len(self._rounds[-1])} patterns in {len(self._rounds) - 1} rounds"


def is_closed(system, target, value):
    """Whether the value is an ascending tuple of patterns that are closed for the target, and not too many."""
    _check_target(system, target)
    places = plain_places(system)
    if not are_patterns(places, value):
        return False
    fields = places.fields_for(greatest_number((target, *value)) + MAX_SHARED)
    numbers = [fields.number_of(pattern) for pattern in value]
    steps = [plain_step(system, fields, name) for name in system.names]
    return fields.is_above_any(fields.number_of(target), numbers) and is_covered(fields, steps, numbers)


def is_certificate(system, target, value):
    """Whether the value is a certificate for the target."""
    _check_target(system, target)
    if not isinstance(value, tuple) or len(value) not in (2, 3):
        return False
    if len(value) == 2:
        return value[0] == "closed" and is_closed(system, target, value[1]) and not can_any_fit(system, value[1])
    run = run_or_none(system, value[1], value[2]) if value[0] == "run" else None
    return run is not None and does_match(run, target)


def are_patterns(places, value):
    """Whether the value is an ascending tuple of patterns over these places, and not of too many."""
    if not isinstance(value, tuple) or len(value) > MAX_CLOSED:
        return False
    return all([places.has_pattern(pattern) for pattern in value]) and is_ascending(value)


def can_any_fit(system, patterns):
    """Whether one of the patterns can fit the start."""
    firsts = {owner: states[0] for owner, states in {**system.agents, **system.pools}.items()}
    return any([all([firsts[entry[0]] == entry[1] for entry in [*lone, *shared]]) for lone, shared in patterns])


def _check_target(system, target):
    """Raise an error if this is no target."""
    if not is_target(system, target):
        raise InvalidOperation("this is no target")


def _kept_search(system, target):
    """The part and the rounds of the search for a target, or None if a round has too many patterns.

    Many questions about a system ask for the same few targets, so the latest searches are kept with it.
    """
    kept = system.notes.setdefault("searches", {})
    if target not in kept:
        if len(kept) >= _MAX_KEPT:
            kept.clear()
        kept[target] = _searched(system, target)
    return kept[target]


def _searched(system, target):
    """The part and the rounds of a new search, or None."""
    # In each round, the patterns ahead ask for at most so many members more than those behind them.
    most = greatest_number((target,)) + MAX_SHARED * (MAX_ROUND + 1)
    part = Part(plain_places(system).fields_for(most), MAX_ROUND)
    try:
        return part, _rounds(system, part, target)
    except TooMany:
        return None


def _rounds(system, part, target):
    """The rounds up to the last one, of integers, as the part finds them."""
    steps = [plain_step(system, part.fields, name) for name in system.names]
    part.take({part.fields.number_of(target): None})
    rounds = []
    while part.fresh:
        rounds.append(part.lowest)
        if len(rounds) > MAX_ROUND + 1 or len(part.lowest) > MAX_ROUND:
            raise TooMany(MAX_ROUND)
        part.take(part.found_ahead(steps))
    return rounds


def _told_rounds(fields, rounds):
    """The rounds with these integers as tuples of patterns, ascending."""
    different = sorted({number for numbers in rounds for number in numbers})
    told = {number: fields.pattern_of(number) for number in different}
    return tuple([tuple(sorted([told[number] for number in numbers])) for numbers in rounds])


def _is_row_below(row, other):
    """Whether a row is nowhere greater than another one."""
    return all([number <= most for number, most in zip(row, other)])


def _least_rows(rows):
    """Those of different rows that no other one is below, ascending."""
    return tuple(sorted([row for row in rows if sum([_is_row_below(other, row) for other in rows]) == 1]))
