"""The search for watched runs that match targets, backwards in rounds."""

from groupclocks.base.systems import MAX_SHARED
from groupclocks.clocks.tagged import BEHIND, FRESH, TOLD, pattern_ahead_of_watched, tagged_places, tagged_steps
from groupclocks.cover.fields import greatest_number, plain_places, plain_step
from groupclocks.cover.patterns import start_row
from groupclocks.cover.reach import MAX_ROUND, are_patterns, can_any_fit
from groupclocks.cover.search import Part, Walk, is_covered
from groupclocks.errors import TooMany


# How many searches are kept with a system.
_MAX_KEPT = 64


class Lates:
    """The rounds of the late patterns, from which events behind the watched one lead to some targets."""

    def __init__(self, system, barred, carriers, targets):
        places = tagged_places(system)
        # In each round, the patterns ahead ask for at most so many members more than those behind them.
        self.most = greatest_number(targets) + MAX_SHARED * (MAX_ROUND + 1)
        self.fields = places.fields_for(self.most)
        self._part = Part(self.fields, MAX_ROUND)
        # For each round up to the last one, how many patterns it has, and those that are new in it and can match just
        # behind the watched event, when nobody has the tag "behind", with their integers.
        self.sizes = []
        self.firsts = []
        behind = [place for place in [*places.lone, *places.shared] if place[2] == BEHIND]
        self._behind_bits = sum([self.fields.bits(place) for place in behind])
        allowed = [name for name in system.names if name not in barred]
        self._go_round(steps_of(system, allowed, carriers, self.fields), targets)

    def patterns(self):
        """The patterns of the last round, ascending."""
        return self._part.patterns()

    def way(self, number):
        """The steps from a pattern to a target, and the target."""
        steps, end = self._part.way(number)
        return steps, self.fields.pattern_of(end)

    def _go_round(self, steps, targets):
        """Go through the rounds up to the last one."""
        part = self._part
        part.take({self.fields.number_of(target): None for target in targets})
        while part.fresh:
            if len(self.sizes) > MAX_ROUND or len(part.lowest) > MAX_ROUND:
                raise TooMany(MAX_ROUND)
            self.sizes.append(len(part.lowest))
            numbers = [number for number in part.fresh if not number & self._behind_bits]
            self.firsts.append([(number, self.fields.pattern_of(number)) for number in numbers])
            part.take(part.found_ahead(steps))


class Hunt:
    """The search, backwards in rounds, for a watched run that matches one of some targets."""

    def __init__(self, system, starts, late):
        self._system = system
        self._starts = starts
        self._late = late
        self._early = Part(plain_places(system).fields_for(late.most), MAX_ROUND)
        # For each early pattern from which the watched event leads on, its action and the late pattern behind it.
        self._crossings = {}
        self._go_round()

    def is_met(self):
        """Whether some watched run matches one of the targets."""
        return len(self._early.fitting_start()) > 0

    def closed_pair(self):
        """The early and the late patterns, which are closed."""
        return self._early.patterns(), self._late.patterns()

    def way(self):
        """Such a run with as few members as possible, as a walk, with its index and the target; there must be one."""
        fields = self._early.fields
        rows = {number: start_row(self._system, fields.pattern_of(number)) for number in self._early.fitting_start()}
        start = min(list(rows), key=lambda one: sum(rows[one]))
        before, crossing = self._early.way(start)
        name, number = self._crossings[crossing]
        walk = Walk(self._system, rows[start], (FRESH,))
        for step in before:
            walk.go(step.action, with_tag(step.befores, FRESH), with_tag(step.behinds, FRESH))
        watched = plain_step(self._system, fields, name)
        walk.go(name, with_tag(watched.befores, FRESH), with_tag(watched.behinds, TOLD))
        behind, target = self._late.way(number)
        for step in behind:
            walk.go(step.action, step.befores, step.behinds)
        return walk, len(before), target

    def _go_round(self):
        """Go through the rounds up to the last one."""
        early, late = self._early, self._late
        steps = plain_steps(self._system, early.fields)
        at = 0
        while early.fresh or at < len(late.sizes):
            many = late.sizes[at] if at < len(late.sizes) else late.sizes[-1]
            if at > MAX_ROUND or len(early.lowest) + many > MAX_ROUND:
                raise TooMany(MAX_ROUND)
            found = early.found_ahead(steps)
            if at < len(late.sizes):
                for number in self._found_ahead_of_watched(late.firsts[at]):
                    found[number] = None
            early.take(found)
            at = at + 1

    def _found_ahead_of_watched(self, firsts):
        """The early patterns from which the watched event leads to one of these late patterns."""
        found = []
        for number, pattern in firsts:
            for name in self._starts:
                first = pattern_ahead_of_watched(self._system, name, pattern)
                if first is not None:
                    found.append(self._early.fields.number_of(first))
                    self._crossings.setdefault(found[-1], (name, number))
        return found


def hunt_of(watch, targets):
    """The search for a watched run of a watch that matches one of some targets.

    Many watches of a system ask for the same targets behind the watched event, so the latest searches are kept with it.
    """
    system, key = watch.system, (watch.barred, watch.carriers, targets)
    kept = system.notes.setdefault("lates", {})
    if key not in kept:
        if len(kept) >= _MAX_KEPT:
            kept.clear()
        kept[key] = _lates_or_none(system, *key)
    if kept[key] is None:
        raise TooMany(MAX_ROUND)
    return Hunt(system, watch.starts, kept[key])


def _lates_or_none(system, barred, carriers, targets):
    """The rounds of the late patterns, or None if there are too many."""
    try:
        return Lates(system, barred, carriers, targets)
    except TooMany:
        return None


def with_tag(places, tag):
    """The places, with this tag behind them."""
    return [(*place, tag) for place in places]


def plain_steps(system, fields):
    """The steps of all actions, without tags."""
    return [plain_step(system, fields, name) for name in system.names]


def steps_of(system, names, carriers, fields):
    """The steps of these actions, with tags."""
    return [step for name in names for step in tagged_steps(system, fields, name, name in carriers)]


def is_closed_pair(watch, targets, early, late):
    """Whether these are ascending tuples of patterns that are closed for the targets and bar them."""
    system = watch.system
    early_places, late_places = plain_places(system), tagged_places(system)
    if not are_patterns(early_places, early) or not are_patterns(late_places, late) or can_any_fit(system, early):
        return False
    # An event needs at most so many members of a place more than a pattern asks for.
    most = greatest_number((*targets, *early, *late)) + MAX_SHARED
    fields, late_fields = early_places.fields_for(most), late_places.fields_for(most)
    numbers = [fields.number_of(pattern) for pattern in early]
    late_numbers = [late_fields.number_of(pattern) for pattern in late]
    firsts = [pattern_ahead_of_watched(system, name, pattern) for name in watch.starts for pattern in late]
    allowed = [name for name in system.names if name not in watch.barred]
    return (are_all_above(late_fields, targets, late_numbers)
            and are_all_above(fields, [first for first in firsts if first is not None], numbers)
            and is_covered(fields, plain_steps(system, fields), numbers)
            and is_covered(late_fields, steps_of(system, allowed, watch.carriers, late_fields), late_numbers))


def are_all_above(fields, patterns, numbers):
    """Whether each of the patterns has one of those with these integers below it."""
    return all([fields.is_above_any(fields.number_of(pattern), numbers) for pattern in patterns])
