"""The search for watched runs that match targets, backwards in rounds."""

from groupclocks.base.systems import MAX_SHARED
from groupclocks.clocks.tagged import BEHIND, FRESH, TOLD, pattern_ahead_of_watched, tagged_places, tagged_steps
from groupclocks.cover.fields import greatest_number, plain_places, plain_step
from groupclocks.cover.patterns import start_row
from groupclocks.cover.reach import MAX_ROUND, are_patterns, can_any_fit
from groupclocks.cover.search import Part, Walk, is_covered
from groupclocks.errors import TooMany


class Hunt:
    """The rounds of patterns for some targets: the early ones ahead of the watched event, the late ones behind it."""

    def __init__(self, watch, targets):
        self._watch = watch
        self._system = watch.system
        # In each round, the patterns ahead ask for at most so many members more than those behind them.
        most = greatest_number(targets) + MAX_SHARED * (MAX_ROUND + 1)
        places = tagged_places(watch.system)
        self._early = Part(plain_places(watch.system).fields_for(most), MAX_ROUND)
        self._late = Part(places.fields_for(most), MAX_ROUND)
        barring = [place for place in [*places.lone, *places.shared] if place[2] == BEHIND]
        self._behind_bits = sum([self._late.fields.bits(place) for place in barring])
        # For each early pattern from which the watched event leads on, its action and the late pattern behind it.
        self._crossings = {}
        self._go_round(targets)

    def certificate(self):
        """A closed pair that bars the targets, or else a watched run that matches one of them."""
        starts = self._early.fitting_start()
        if not starts:
            return "closed", self._early.patterns(), self._late.patterns()
        rows = {number: start_row(self._system, self._early.fields.pattern_of(number)) for number in starts}
        start = min(starts, key=lambda one: sum(rows[one]))
        run, index = self._run(start, rows[start])
        return "run", run.numbers, run.events, index

    def _go_round(self, targets):
        """Go through the rounds up to the last one."""
        early, late = self._early, self._late
        early_steps = plain_steps(self._system, early.fields)
        late_steps = allowed_steps(self._watch, late.fields)
        late.take({late.fields.number_of(target): None for target in targets})
        at = 0
        while early.fresh or late.fresh:
            if at > MAX_ROUND or len(early.lowest) + len(late.lowest) > MAX_ROUND:
                raise TooMany(MAX_ROUND)
            found = early.found_ahead(early_steps)
            for number in self._found_ahead_of_watched():
                found[number] = None
            early.take(found)
            late.take(late.found_ahead(late_steps))
            at += 1

    def _found_ahead_of_watched(self):
        """The early patterns from which the watched event leads to one of the new late patterns."""
        found = []
        # Nobody has the tag "behind" just behind the watched event.
        numbers = [number for number in self._late.fresh if not number & self._behind_bits]
        for number in numbers:
            pattern = self._late.fields.pattern_of(number)
            for name in self._watch.starts:
                first = pattern_ahead_of_watched(self._system, name, pattern)
                if first is not None:
                    found.append(self._early.fields.number_of(first))
                    self._crossings.setdefault(found[-1], (name, number))
        return found

    def _run(self, start, numbers):
        """The watched run from the start that matches this early pattern, and the index of its watched event."""
        before, crossing = self._early.way(start)
        name, number = self._crossings[crossing]
        walk = Walk(self._system, numbers, (FRESH,))
        for step in before:
            walk.go(step.action, with_tag(step.befores, FRESH), with_tag(step.behinds, FRESH))
        watched = plain_step(self._system, self._early.fields, name)
        walk.go(name, with_tag(watched.befores, FRESH), with_tag(watched.behinds, TOLD))
        behind, _ = self._late.way(number)
        for step in behind:
            walk.go(step.action, step.befores, step.behinds)
        return walk.run(), len(before)


def with_tag(places, tag):
    """The places, with this tag behind them."""
    return [(*place, tag) for place in places]


def plain_steps(system, fields):
    """The steps of all actions, without tags."""
    return [plain_step(system, fields, name) for name in system.names]


def allowed_steps(watch, fields):
    """The steps of the actions that are not barred, with tags."""
    allowed = [name for name in watch.system.names if name not in watch.barred]
    return [step for name in allowed for step in tagged_steps(watch.system, fields, name, name in watch.carriers)]


def is_closed_pair(watch, targets, early, late):
    """Whether these are ascending tuples of patterns that are closed for the targets and bar them."""
    system = watch.system
    early_places, late_places = plain_places(system), tagged_places(system)
    if not are_patterns(early_places, early) or not are_patterns(late_places, late) or can_any_fit(system, early):
        return False
    # An event needs at most so many members of a place more than a pattern asks for.
    most = greatest_number((*targets, *early, *late)) + MAX_SHARED
    fields, late_fields = early_places.fields_for(most), late_places.fields_for(most)
    numbers = [fields.number_of(pattern) for pattern in early]
    late_numbers = [late_fields.number_of(pattern) for pattern in late]
    firsts = [pattern_ahead_of_watched(system, name, pattern) for name in watch.starts for pattern in late]
    return (are_all_above(late_fields, targets, late_numbers)
            and are_all_above(fields, [first for first in firsts if first is not None], numbers)
            and is_covered(fields, plain_steps(system, fields), numbers)
            and is_covered(late_fields, allowed_steps(watch, late_fields), late_numbers))


def are_all_above(fields, patterns, numbers):
    """Whether each of the patterns has one of those with these integers below it."""
    return all([fields.is_above_any(fields.number_of(pattern), numbers) for pattern in patterns])
