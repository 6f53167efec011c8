"""The search for what leads to targets, backwards in rounds, and runs that are made from what it finds."""

from groupclocks.cover.fields import Basis
from groupclocks.errors import TooMany
from groupclocks.runs.runs import Run


class Part:
    """The least patterns that a search has found in its rounds, as integers."""

    def __init__(self, fields, limit):
        """No round may have more patterns than the limit."""
        self.fields = fields
        self.limit = limit
        self.lowest = []
        # Those of the last round that are new in it: only from them can more patterns come.
        self.fresh = []
        self._basis = Basis(fields)
        # For each pattern that was once kept, the step to another one, and that one; None where a way ends.
        self._origins = {}
        self._seen = {}

    def take(self, found):
        """Begin a round with these patterns, a dict from integers to origins, besides the kept ones."""
        fresh = Basis(self.fields)
        # No later one is below an earlier one, as the integers ascend.
        for number in sorted([number for number in found if number not in self._seen]):
            self._seen[number] = True
            if not self._basis.is_above_any(number) and not fresh.is_above_any(number):
                fresh.keep(number)
                self._origins[number] = found[number]
                if len(fresh.lowest) > self.limit:
                    raise TooMany(self.limit)
        self._renew([number for number in self.lowest if not fresh.is_above_any(number)], fresh.lowest)

    def _renew(self, old, fresh):
        """Begin a round with these old patterns and these new ones, of which none is below another one."""
        if len(old) < len(self.lowest):
            self._basis = Basis(self.fields)
            for number in old:
                self._basis.keep(number)
        for number in fresh:
            self._basis.keep(number)
        self.lowest = old + fresh
        self.fresh = fresh

    def found_ahead(self, steps):
        """The patterns ahead of the new ones by some steps, with their origins, but none that says nothing new."""
        fields, found = self.fields, {}
        for number in self.fresh:
            for step in steps:
                if number & step.useful and not number & step.wrong:
                    found[fields.ahead(step, number)] = (step, number)
        return found

    def way(self, number):
        """The steps that lead from a pattern that was once kept to the end of its way, and the pattern at the end."""
        steps = []
        while self._origins[number] is not None:
            step, number = self._origins[number]
            steps.append(step)
        return steps, number

    def patterns(self):
        """The kept patterns, ascending."""
        return tuple(sorted([self.fields.pattern_of(number) for number in self.lowest]))

    def fitting_start(self):
        """The kept patterns that can fit the start."""
        return [number for number in self.lowest if self.fields.can_fit_start(number)]


def is_covered(fields, steps, numbers):
    """Whether each pattern ahead of one of these by a step, if there is one, has one of them below it."""
    basis = Basis(fields)
    basis.keep_least(numbers)
    covered = {number: True for number in basis.lowest}
    # What holds for the least ones holds for the others: what is ahead of them has what is ahead of these below it.
    for number in basis.lowest:
        for step in steps:
            if number & step.useful and not number & step.wrong:
                found = fields.ahead(step, number)
                if found not in covered and not basis.is_above_any(found):
                    return False
                covered[found] = True
    return True


class Walk:
    """A run in the making, in which anybody takes part who is where an event needs somebody."""

    def __init__(self, system, numbers, end=()):
        """`end` is what follows behind owner and state in the places at the start."""
        self._system = system
        self._numbers = numbers
        self._events = []
        self._where = {}
        for (pool, states), many in zip(system.pools.items(), numbers):
            place = (pool, states[0], *end)
            self._where[place] = list(range(many))

    def go(self, name, befores, behinds):
        """Add an event of an action that finds its participants in some places and leads them to others."""
        pools = self._system.pools
        moves = [move for move in self._system[name].moves if move[0] in pools]
        taken = [self._where[place].pop() for place in befores if place[0] in pools]
        goals = [place for place in behinds if place[0] in pools]
        for goal, number in zip(goals, taken):
            self._where.setdefault(goal, []).append(number)
        # Members in equal moves ascend; equal moves stand beside one another.
        self._events.append((name, tuple([number for _, number in sorted(list(zip(moves, taken)))])))

    def run(self):
        """The run with the events that were added."""
        return Run(self._system, self._numbers, tuple(self._events))
