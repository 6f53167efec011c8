"""Where participants can be, and patterns as single integers."""

from groupclocks.base.words import TOO_GREAT

# How many bits the field of a place has at least: enough for each search that goes through its rounds.
MIN_WIDTH = 12


class Places:
    """Where participants can be: tuples of an owner, a state and perhaps more, ascending.

    A pattern over places has one of an agent for each that it asks for, and (*place, number) for members.
    """

    def __init__(self, agents, pools, ends):
        """`ends` are what can follow behind an owner and a state in a place."""
        self.lone = _places(agents, ends)
        self.shared = _places(pools, ends)
        firsts = [(owner, states[0]) for owner, states in {**agents, **pools}.items()]
        self.later = [place for place in [*self.lone, *self.shared] if place[:2] not in firsts]
        self._fields = {}

    def has_pattern(self, value):
        """Whether the value is a pattern over these places."""
        return self.have_patterns((value,))

    def have_patterns(self, values):
        """Whether each of the values is a pattern over these places."""
        # Patterns that stand together have much in common, which need be looked at only once.
        known_lone, known_place = (), ()
        for value in values:
            if not isinstance(value, tuple) or len(value) != 2:
                return False
            lone, shared = value
            if not isinstance(shared, tuple) or not (lone == known_lone or self._are_lone(lone)):
                return False
            known_lone, earlier = lone, ()
            for entry in shared:
                if not isinstance(entry, tuple) or not entry or not _is_number(entry[-1]):
                    return False
                place = entry[:-1]
                if not (place == known_place or _is_place(self.shared, place)) or place <= earlier:
                    return False
                known_place = earlier = place
        return True

    def _are_lone(self, value):
        """Whether the value is an ascending tuple of places of different agents."""
        if not isinstance(value, tuple):
            return False
        earlier = ""
        for entry in value:
            if not isinstance(entry, tuple) or not _is_place(self.lone, entry) or entry[0] <= earlier:
                return False
            earlier = entry[0]
        return True

    def fields_for(self, most):
        """The fields for patterns over these places that ask for at most so many members in a place."""
        width = MIN_WIDTH
        while most >> width:
            width = 2 * width
        if width not in self._fields:
            self._fields[width] = Fields(self, width)
        return self._fields[width]


def plain_places(system):
    """The places of patterns: owners and states."""
    if "plain" not in system.notes:
        system.notes["plain"] = Places(system.agents, system.pools, ((),))
    return system.notes["plain"]


def greatest_number(patterns):
    """The greatest number of members that one of the patterns asks for, or 0."""
    return max([entry[-1] for _, shared in patterns for entry in shared], default=0)


def are_there(there, pattern):
    """Whether all that the pattern asks for is there: `there` leads from places to numbers of participants."""
    lone, shared = pattern
    return all([place in there for place in lone]) and all([there.get(entry[:-1], 0) >= entry[-1] for entry in shared])


class Fields:
    """How patterns over some places are written as integers, so that two of them are compared at once.

    Each place has a field of bits, and above it a guard bit, which keeps a field that would fall below 0 from borrowing
    from the next one. If a pattern is below another one, its integer is not greater. Numbers that are too great for
    their fields are written as the greatest one.
    """

    def __init__(self, places, width):
        """Each field of members has so many bits."""
        self.places = places
        # The steps of actions between these places, for who has worked them out.
        self.known_steps = {}
        self._width = width
        self._limit = (1 << width) - 1
        self._lone = {place: 2 * at for at, place in enumerate(places.lone)}
        first = 2 * len(places.lone)
        self._shared = {place: first + (self._width + 1) * at for at, place in enumerate(places.shared)}
        self._lone_bits = sum([1 << shift for shift in self._lone.values()])
        self._agents_bits = [self.owner_bits(agent) for agent in sorted({place[0] for place in places.lone})]
        self._shared_guards = sum([(self._limit + 1) << shift for shift in self._shared.values()])
        self.guards = self._shared_guards + 2 * self._lone_bits
        self._later_bits = sum([self.bits(place) for place in places.later])

    def unit(self, place):
        """The integer that asks for one participant in a place."""
        return 1 << (self._lone[place] if place in self._lone else self._shared[place])

    def bits(self, place):
        """All bits of the field of a place."""
        return self.unit(place) * (1 if place in self._lone else self._limit)

    def owner_bits(self, owner):
        """All bits of the fields of an agent."""
        return sum([1 << shift for place, shift in self._lone.items() if place[0] == owner])

    def is_alone(self, place):
        """Whether the place is one of an agent."""
        return place in self._lone

    def agents_bits(self, number):
        """All bits of the fields of the agents that the pattern with this integer asks for."""
        return sum([bits for bits in self._agents_bits if number & bits])

    def number_of(self, pattern):
        """The integer of a pattern."""
        lone, shared = pattern
        asked, limit = 0, self._limit
        for place in lone:
            asked = asked | 1 << self._lone[place]
        for entry in shared:
            asked = asked | min(entry[-1], limit) << self._shared[entry[:-1]]
        return asked

    def pattern_of(self, number):
        """The pattern with this integer."""
        lone, shared, limit = [], [], self._limit
        if number & self._lone_bits:
            lone = [place for place, shift in self._lone.items() if number >> shift & 1]
        if number > self._lone_bits:
            asked = [(place, (number >> shift) & limit) for place, shift in self._shared.items()]
            shared = [(*place, many) for place, many in asked if many]
        return tuple(lone), tuple(shared)

    def can_fit_start(self, number):
        """Whether the pattern with this integer asks for first states only."""
        return number & self._later_bits == 0

    def lone_part(self, number):
        """What the integer of a pattern tells of agents."""
        return number & self._lone_bits

    def is_above_any(self, number, others):
        """Whether the pattern with this integer has one of the others below it."""
        guards = self.guards
        guarded = number | guards
        for other in others:
            if (guarded - other) & guards == guards:
                return True
        return False

    def least(self, numbers):
        """The integers of the least ones of these patterns, ascending."""
        basis = Basis(self)
        basis.keep_least(numbers)
        return basis.lowest

    def ahead(self, step, number):
        """The integer of the pattern ahead of a pattern by a step, or None."""
        if number & step.wrong:
            return None
        guarded = ((number & ~step.moved) | self.guards) - step.goals
        kept = guarded & self._shared_guards
        return (guarded & ((kept - (kept >> self._width)) | self._lone_bits)) + step.sources


class Basis:
    """Patterns, as integers, of which none is below another one, kept so that those below one are found soon."""

    def __init__(self, fields):
        self.lowest = []
        self._fields = fields
        # The patterns that ask for the same of agents stand together. There are few sets of agents to ask for.
        self._rows = {}
        self._masks = []

    def is_above_any(self, number):
        """Whether the pattern with this integer has one of the kept ones below it."""
        guards = self._fields.guards
        guarded = number | guards
        for mask in self._masks:
            for other in self._rows.get(number & mask, ()):
                if (guarded - other) & guards == guards:
                    return True
        return False

    def keep(self, number):
        """Keep a pattern."""
        self.lowest.append(number)
        lone = self._fields.lone_part(number)
        if lone not in self._rows:
            self._rows[lone] = []
            mask = self._fields.agents_bits(number)
            if mask not in self._masks:
                self._masks.append(mask)
        self._rows[lone].append(number)

    def keep_least(self, numbers):
        """Keep the least ones of some patterns, if no kept one is above one of them."""
        # No later one is below an earlier one, as the integers ascend.
        for number in sorted(numbers):
            if not self.is_above_any(number):
                self.keep(number)


class Step:
    """One way in which an action moves its participants, from some places to others."""

    def __init__(self, fields, name, befores, behinds):
        """There is a place before the event, and one behind it, for each move of the action, in order."""
        self.action = name
        self.befores = befores
        self.behinds = behinds
        lone = [place for place in behinds if fields.is_alone(place)]
        self.sources = sum([fields.unit(place) for place in befores])
        self.goals = sum([fields.unit(place) for place in behinds if not fields.is_alone(place)])
        self.moved = sum([fields.owner_bits(place[0]) for place in lone])
        # No match of a pattern that asks for one of the agents elsewhere comes about.
        self.wrong = self.moved - sum([fields.unit(place) for place in lone])
        # What is ahead of a pattern that asks for nobody at a goal asks for all that the pattern asks for itself.
        self.useful = 0
        for place in behinds:
            self.useful = self.useful | fields.bits(place)


def plain_step(system, fields, name):
    """The step of an action between the places of patterns."""
    if name not in fields.known_steps:
        moves = system[name].moves
        sources, goals = [move[:2] for move in moves], [(owner, goal) for owner, _, goal in moves]
        fields.known_steps[name] = Step(fields, name, sources, goals)
    return fields.known_steps[name]


def _places(owners, ends):
    """The dict of all places of some owners, ascending."""
    found = [(owner, state, *end) for owner, states in owners.items() for state in states for end in ends]
    return {place: True for place in sorted(found)}


def _is_place(places, value):
    """Whether the tuple is one of the places."""
    for part in value:
        if not isinstance(part, str):
            return False
    return value in places


def _is_number(value):
    """Whether the value is a number that a pattern can ask for."""
    return isinstance(value, int) and not isinstance(value, bool) and 1 <= value < TOO_GREAT
