"""Where participants can be, and patterns as single integers."""

from groupclocks.base.checks import is_ascending
from groupclocks.base.words import is_integer


class Places:
    """Where participants can be: tuples of an owner, a state and perhaps more, ascending.

    A pattern over places has one of an agent for each that it asks for, and (*place, number) for members.
    """

    def __init__(self, agents, pools, ends):
        """`ends` are what can follow behind an owner and a state in a place."""
        self.lone = _places(agents, ends)
        self.shared = _places(pools, ends)
        firsts = [(owner, states[0]) for owner, states in {**agents, **pools}.items()]
        self.later = [place for place in [*self.lone, *self.shared] if place[:2] not in firsts]

    def is_pattern(self, value):
        """Whether the value is a pattern over these places."""
        if not isinstance(value, tuple) or len(value) != 2:
            return False
        lone, shared = value
        if not _are_tuples(lone) or not _are_tuples(shared):
            return False
        if not all([_is_place(self.lone, entry) for entry in lone]):
            return False
        if not all([_is_place(self.shared, entry[:-1]) and _is_number(entry[-1]) for entry in shared]):
            return False
        # An agent is in one place only; members of a pool can be asked for in several.
        return is_ascending([entry[0] for entry in lone]) and is_ascending([entry[:-1] for entry in shared])


def plain_places(system):
    """The places of patterns: owners and states."""
    return Places(system.agents, system.pools, ((),))


def greatest_number(patterns):
    """The greatest number of members that one of the patterns asks for, or 0."""
    return max([entry[-1] for _, shared in patterns for entry in shared], default=0)


def are_there(there, pattern):
    """Whether all that the pattern asks for is there: `there` leads from places to numbers of participants."""
    lone, shared = pattern
    return all([place in there for place in lone]) and all([there.get(entry[:-1], 0) >= entry[-1] for entry in shared])


class Fields:
    """How patterns over some places are written as integers, so that two of them are compared at once.

    Each place has a field of bits, and above it a guard bit, which keeps a field that would fall below 0 from borrowing
    from the next one. If a pattern is below another one, its integer is not greater.
    """

    def __init__(self, places, most):
        """No pattern asks for more than `most` members in a place; greater numbers are written as the greatest."""
        self._width = most.bit_length()
        self._limit = (1 << self._width) - 1
        self._lone = {place: 2 * at for at, place in enumerate(places.lone)}
        first = 2 * len(places.lone)
        self._shared = {place: first + (self._width + 1) * at for at, place in enumerate(places.shared)}
        self._lone_bits = sum([1 << shift for shift in self._lone.values()])
        self._shared_guards = sum([(self._limit + 1) << shift for shift in self._shared.values()])
        self._guards = self._shared_guards + 2 * self._lone_bits
        self._later_bits = sum([self.bits(place) for place in places.later])

    def unit(self, place):
        """The integer that asks for one participant in a place."""
        return 1 << (self._lone[place] if place in self._lone else self._shared[place])

    def bits(self, place):
        """All bits of the field of a place."""
        return self.unit(place) * (1 if place in self._lone else self._limit)

    def owner_bits(self, owner):
        """All bits of the fields of an agent."""
        return sum([1 << shift for place, shift in self._lone.items() if place[0] == owner])

    def is_alone(self, place):
        """Whether the place is one of an agent."""
        return place in self._lone

    def number_of(self, pattern):
        """The integer of a pattern."""
        lone, shared = pattern
        asked = sum([1 << self._lone[place] for place in lone])
        return asked + sum([min(entry[-1], self._limit) << self._shared[entry[:-1]] for entry in shared])

    def pattern_of(self, number):
        """The pattern with this integer."""
        lone = [place for place, shift in self._lone.items() if number >> shift & 1]
        shared = [(*place, (number >> shift) & self._limit) for place, shift in self._shared.items()]
        return tuple(lone), tuple([entry for entry in shared if entry[-1]])

    def can_fit_start(self, number):
        """Whether the pattern with this integer asks for first states only."""
        return number & self._later_bits == 0

    def is_above_any(self, number, others):
        """Whether the pattern with this integer has one of the others below it."""
        guards = self._guards
        guarded = number | guards
        for other in others:
            if (guarded - other) & guards == guards:
                return True
        return False

    def least(self, numbers):
        """The integers of the least ones of these patterns, ascending."""
        found = []
        for number in sorted(numbers):
            if not self.is_above_any(number, found):
                found.append(number)
        return found

    def ahead(self, step, number):
        """The integer of the pattern ahead of a pattern by a step, or None."""
        if number & step.wrong:
            return None
        guarded = ((number & ~step.moved) | self._guards) - step.goals
        kept = guarded & self._shared_guards
        return (guarded & ((kept - (kept >> self._width)) | self._lone_bits)) + step.sources


class Step:
    """One way in which an action moves its participants, from some places to others."""

    def __init__(self, fields, name, befores, behinds):
        """There is a place before the event, and one behind it, for each move of the action, in order."""
        self.action = name
        self.befores = befores
        self.behinds = behinds
        lone = [place for place in behinds if fields.is_alone(place)]
        self.sources = sum([fields.unit(place) for place in befores])
        self.goals = sum([fields.unit(place) for place in behinds if not fields.is_alone(place)])
        self.moved = sum([fields.owner_bits(place[0]) for place in lone])
        # No match of a pattern that asks for one of the agents elsewhere comes about.
        self.wrong = self.moved - sum([fields.unit(place) for place in lone])
        # What is ahead of a pattern that asks for nobody at a goal asks for all that the pattern asks for itself.
        self.useful = 0
        for place in behinds:
            self.useful = self.useful | fields.bits(place)


def plain_step(system, fields, name):
    """The step of an action between the places of patterns."""
    moves = system[name].moves
    return Step(fields, name, [move[:2] for move in moves], [(owner, goal) for owner, _, goal in moves])


def _places(owners, ends):
    """The dict of all places of some owners, ascending."""
    found = [(owner, state, *end) for owner, states in owners.items() for state in states for end in ends]
    return {place: True for place in sorted(found)}


def _are_tuples(value):
    """Whether the value is a tuple of tuples."""
    return isinstance(value, tuple) and all([isinstance(entry, tuple) for entry in value])


def _is_place(places, value):
    """Whether the tuple is one of the places."""
    return all([isinstance(part, str) for part in value]) and value in places


def _is_number(value):
    """Whether the value is a number that a pattern can ask for."""
    return is_integer(value) and value >= 1
