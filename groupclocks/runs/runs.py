"""Events, numbers of members, and runs."""

from groupclocks.base.checks import check_system, is_action_name, is_ascending, is_index
from groupclocks.base.words import is_integer
from groupclocks.errors import InvalidNumber, InvalidOperation, InvalidRun, NotPossible, TooMany

MAX_MEMBERS = 2000
MAX_EVENTS = 2000


def is_event(system, value):
    """Whether the value is an event of the system, with numbers of members that a run can have."""
    check_system(system)
    if not isinstance(value, tuple) or len(value) != 2 or not is_action_name(system, value[0]):
        return False
    return _are_members(_shared_moves(system, value[0]), value[1])


def is_numbers(system, value):
    """Whether the value has a number of members for each pool of the system."""
    check_system(system)
    if not isinstance(value, tuple) or len(value) != len(system.pools):
        return False
    return all([is_integer(number) and 0 <= number <= MAX_MEMBERS for number in value])


def check_run(run):
    """Raise an error if this is no run."""
    if not isinstance(run, Run):
        raise InvalidRun("this is no run")


def run_or_none(system, numbers, events):
    """The run with these numbers and events, or None if there is none."""
    try:
        return Run(system, numbers, events)
    except (InvalidRun, TooMany, NotPossible):
        return None


def parts_of(system, event):
    """The triples (participant, source, target) of an event, one for each move of its action."""
    name, members = event
    agents = system.agents
    parts = []
    taken = 0
    for owner, source, goal in system[name].moves:
        if owner in agents:
            parts.append(((owner, 0), source, goal))
        else:
            parts.append(((owner, members[taken]), source, goal))
            taken = taken + 1
    return parts


class Run:
    """Events of a system with so many members, each of them possible behind the earlier ones. It never changes."""

    def __init__(self, system, numbers, events=()):
        if not is_numbers(system, numbers) or not _are_events(system, numbers, events):
            raise InvalidRun("there is no such run")
        if len(events) > MAX_EVENTS:
            raise TooMany(MAX_EVENTS)
        self._system = system
        self._numbers = numbers
        self._events = events
        # The states and the latest events of the participants, and for each event its past: the bits of the events
        # before it.
        self._states, self._latest, self._pasts = _played(system, _start_states(system, numbers), {}, (), events)

    @property
    def system(self):
        """The system."""
        return self._system

    @property
    def numbers(self):
        """How many members each pool has."""
        return self._numbers

    @property
    def events(self):
        """The events, in order."""
        return self._events

    @property
    def finals(self):
        """The dict from the participants to their states at the end."""
        return {who: self._states[who] for who in self._states}

    def participants(self, index):
        """The participants of an event, ascending."""
        self._check_index(index)
        return tuple(sorted([who for who, _, _ in parts_of(self._system, self._events[index])]))

    def past(self, index):
        """The indices of the events before an event, ascending."""
        self._check_index(index)
        return tuple([at for at in range(index) if self._pasts[index] >> at & 1])

    def is_before(self, one, other):
        """Whether an event is before another one."""
        self._check_index(one)
        self._check_index(other)
        return self._pasts[other] >> one & 1 == 1

    def is_concurrent(self, one, other):
        """Whether two different events are concurrent."""
        is_ordered = self.is_before(one, other) or self.is_before(other, one)
        return one != other and not is_ordered

    def each_possible(self):
        """The events that are possible at the end, one by one, ascending."""
        rooms = {}
        for owner, number in self._states:
            rooms.setdefault((owner, self._states[owner, number]), []).append(number)
        for action in self._system.actions:
            name, moves = action.called, _shared_moves(self._system, action.called)
            if all([move[:2] in rooms for move in action.moves]):
                for members in _each_choice(moves, rooms, ()):
                    yield name, members

    def part(self, indices):
        """The run with only these events, which have with each of them its past."""
        if not self._is_part(indices):
            raise InvalidOperation("these are no indices of events with all that is before them")
        return Run(self._system, self._numbers, tuple([self._events[index] for index in indices]))

    def widened(self, numbers):
        """The run with more members."""
        if not is_numbers(self._system, numbers):
            raise InvalidRun("these are no numbers")
        if any([more < number for more, number in zip(numbers, self._numbers)]):
            raise InvalidOperation("there would be fewer members of a pool")
        return Run(self._system, numbers, self._events)

    def each_order(self):
        """All orders in which the events make a run where each has the same past, one by one, ascending."""
        many = len(self._events)
        order = []
        tried = 0
        if many == 0:
            yield ()
        waits, leads = _links(self._system, self._events)
        # An event waits for so many others; -1 says that it has its place in the order already.
        while tried < many or order:
            if tried == many:
                tried = order.pop()
                waits[tried] = 0
                for later in leads[tried]:
                    waits[later] += 1
                tried += 1
            elif waits[tried] == 0:
                order.append(tried)
                waits[tried] = -1
                for later in leads[tried]:
                    waits[later] -= 1
                tried = 0 if len(order) < many else many
                if len(order) == many:
                    yield tuple(order)
            else:
                tried += 1

    def is_same(self, value):
        """Whether the value is a run in which each participant takes part in equal events in the same order."""
        if not isinstance(value, Run) or self._system != value._system or self._numbers != value._numbers:
            return False
        return _histories(self._system, self._events) == _histories(value._system, value._events)

    def _check_index(self, index):
        """Raise an error if this is not the index of an event."""
        if not is_index(index, len(self._events)):
            raise InvalidNumber(index)

    def _is_part(self, value):
        """Whether the value is an ascending tuple of indices that has with each event its past."""
        if not isinstance(value, tuple) or not all([is_index(index, len(self._events)) for index in value]):
            return False
        kept = sum([1 << index for index in value])
        return is_ascending(value) and not any([self._pasts[index] & ~kept for index in value])

    def __getitem__(self, index):
        self._check_index(index)
        return self._events[index]

    def __iter__(self):
        raise TypeError("a run is not iterable")

    def __len__(self):
        return len(self._events)

    def __eq__(self, other):
        return (isinstance(other, Run) and self._system == other._system and self._numbers == other._numbers
                and self._events == other._events)

    def __str__(self):
        return f"run of {len(self._events)} events, {sum(self._numbers)} members"

    def __add__(self, other):
        if not _is_event_there(self._system, self._numbers, other):
            raise InvalidOperation("this is no event whose members are there")
        if len(self._events) >= MAX_EVENTS:
            raise TooMany(MAX_EVENTS)
        states, latest, pasts = _played(self._system, self._states, self._latest, self._pasts, (other,))
        # Only the new event is played: a run that is put together event by event is not played again for each.
        grown = Run(self._system, self._numbers)
        grown._events = self._events + (other,)
        grown._states = states
        grown._latest = latest
        grown._pasts = pasts
        return grown


def _shared_moves(system, name):
    """The moves of pools in an action."""
    pools = system.pools
    return [move for move in system[name].moves if move[0] in pools]


def _are_members(moves, value):
    """Whether the value has a number for each of these moves of pools, as the members of an event have them."""
    if not isinstance(value, tuple) or len(value) != len(moves):
        return False
    if not all([is_integer(number) and 0 <= number < MAX_MEMBERS for number in value]):
        return False
    return all([_can_follow(moves, value[:at], number) for at, number in enumerate(value)])


def _can_follow(moves, chosen, number):
    """Whether a member can take part in the next of these moves, behind those that were chosen for the earlier ones."""
    move = moves[len(chosen)]
    for earlier, taken in zip(moves, chosen):
        if earlier[0] == move[0] and taken == number:
            return False
        if earlier == move and taken > number:
            return False
    return True


def _each_choice(moves, rooms, chosen):
    """The members that can take part in these moves, ascending, with those that are chosen already as the first."""
    if len(chosen) == len(moves):
        yield chosen
        return
    for number in rooms[moves[len(chosen)][:2]]:
        if _can_follow(moves, chosen, number):
            longer = (*chosen, number)
            yield from _each_choice(moves, rooms, longer)


def _is_event_there(system, numbers, value):
    """Whether the value is an event whose members are among so many."""
    if not is_event(system, value):
        return False
    there = {pool: number for pool, number in zip(system.pools, numbers)}
    return all([owner not in there or number < there[owner] for (owner, number), _, _ in parts_of(system, value)])


def _are_events(system, numbers, value):
    """Whether the value is a tuple of events whose members are among so many."""
    return isinstance(value, tuple) and all([_is_event_there(system, numbers, event) for event in value])


def _start_states(system, numbers):
    """The dict from the participants, ascending, to their first states."""
    many = {agent: 1 for agent in system.agents}
    for pool, number in zip(system.pools, numbers):
        many[pool] = number
    return {(owner, at): system.states(owner)[0] for owner in sorted(many) for at in range(many[owner])}


def _played(system, states, latest, pasts, events):
    """The states and latest events of the participants, and the pasts, behind some more events."""
    new_states = {who: states[who] for who in states}
    new_latest = {who: latest[who] for who in latest}
    new_pasts = list(pasts)
    for event in events:
        index = len(new_pasts)
        past = 0
        for who, source, goal in parts_of(system, event):
            if new_states[who] != source:
                raise NotPossible(index)
            if who in new_latest:
                past = past | new_pasts[new_latest[who]] | 1 << new_latest[who]
            new_states[who] = goal
            new_latest[who] = index
        new_pasts.append(past)
    return new_states, new_latest, tuple(new_pasts)


def _links(system, events):
    """For each event, how many events its participants come from at once, and which events they go to at once."""
    waits, leads, latest = [], [[] for _ in events], {}
    for index, event in enumerate(events):
        people = [who for who, _, _ in parts_of(system, event)]
        sources = sorted({latest[who] for who in people if who in latest})
        waits.append(len(sources))
        for source in sources:
            leads[source].append(index)
        for who in people:
            latest[who] = index
    return waits, leads


def _histories(system, events):
    """The dict from the participants of some events to those that each takes part in, in order."""
    found = {}
    for event in events:
        for who, _, _ in parts_of(system, event):
            found.setdefault(who, []).append(event)
    return found
