"""Events, numbers of members, and runs."""

from groupclocks.base.checks import check_system, is_action_name, is_ascending, is_index
from groupclocks.base.words import is_integer
from groupclocks.errors import InvalidNumber, InvalidOperation, InvalidRun, NotPossible, TooMany

MAX_MEMBERS = 2000
MAX_EVENTS = 2000


def is_event(system, value):
    """Whether the value is an event of the system, with numbers of members that a run can have."""
    check_system(system)
    if not isinstance(value, tuple) or len(value) != 2 or not is_action_name(system, value[0]):
        return False
    return _are_numbers(value[1]) and system.plan(value[0]).are_members(value[1])


def is_numbers(system, value):
    """Whether the value has a number of members for each pool of the system."""
    check_system(system)
    if not isinstance(value, tuple) or len(value) != len(system.pools):
        return False
    return all([is_integer(number) and 0 <= number <= MAX_MEMBERS for number in value])


def check_run(run):
    """Raise an error if this is no run."""
    if not isinstance(run, Run):
        raise InvalidRun("this is no run")


def run_or_none(system, numbers, events):
    """The run with these numbers and events, or None if there is none."""
    try:
        return Run(system, numbers, events)
    except (InvalidRun, TooMany, NotPossible):
        return None


def parts_of(system, event):
    """The triples (participant, source, target) of an event, one for each move of its action."""
    name, members = event
    return system.plan(name).parts_with(members)


class Run:
    """Events of a system with so many members, each of them possible behind the earlier ones. It never changes."""

    def __init__(self, system, numbers, events=()):
        parts = _parts_of_all(system, numbers, events) if is_numbers(system, numbers) else None
        if parts is None:
            raise InvalidRun("there is no such run")
        if len(events) > MAX_EVENTS:
            raise TooMany(MAX_EVENTS)
        self._system = system
        self._numbers = numbers
        self._events = events
        self._parts = parts
        self._states = _states_behind(_start_states(system, numbers), parts, 0)
        # The latest events of the participants, and for each event its past: the bits of the events before it. They
        # are worked out when they are asked for.
        self._latest = None
        self._pasts = None

    @property
    def system(self):
        """The system."""
        return self._system

    @property
    def numbers(self):
        """How many members each pool has."""
        return self._numbers

    @property
    def events(self):
        """The events, in order."""
        return self._events

    @property
    def parts(self):
        """For each event its triples (participant, source, target), one for each move of its action."""
        return self._parts

    @property
    def finals(self):
        """The dict from the participants to their states at the end."""
        return {who: self._states[who] for who in self._states}

    def participants(self, index):
        """The participants of an event, ascending."""
        self._check_index(index)
        return tuple(sorted([who for who, _, _ in self._parts[index]]))

    def has_participant(self, who):
        """Whether a pair of a string and an integer is a participant."""
        return who in self._states

    def past(self, index):
        """The indices of the events before an event, ascending."""
        self._check_index(index)
        past = self.past_bits()[index]
        return tuple([at for at in range(index) if past >> at & 1])

    def past_bits(self):
        """For each event its past, as the bits of the events in it."""
        if self._pasts is None:
            self._latest, self._pasts = _pasts_behind({}, (), self._parts)
        return self._pasts

    def is_before(self, one, other):
        """Whether an event is before another one."""
        self._check_index(one)
        self._check_index(other)
        return self.past_bits()[other] >> one & 1 == 1

    def is_concurrent(self, one, other):
        """Whether two different events are concurrent."""
        is_ordered = self.is_before(one, other) or self.is_before(other, one)
        return one != other and not is_ordered

    def each_possible(self):
        """The events that are possible at the end, one by one, ascending."""
        rooms = {}
        for owner, number in self._states:
            rooms.setdefault((owner, self._states[owner, number]), []).append(number)
        for action in self._system.actions:
            name, moves = action.called, self._system.plan(action.called).shared
            if all([move[:2] in rooms for move in action.moves]):
                for members in _each_choice(moves, rooms, ()):
                    yield name, members

    def part(self, indices):
        """The run with only these events, which have with each of them its past."""
        if not self._is_part(indices):
            raise InvalidOperation("these are no indices of events with all that is before them")
        return Run(self._system, self._numbers, tuple([self._events[index] for index in indices]))

    def shortened(self, many):
        """The run without its last events; it has at least so many."""
        left = len(self._events) - many
        states = {who: self._states[who] for who in self._states}
        for parts in reversed(list(self._parts[left:])):
            for who, source, _ in parts:
                states[who] = source
        # A run that has nobody is made soonest; all that it knows is replaced.
        shorter = Run(self._system, (0,) * len(self._numbers))
        shorter._numbers = self._numbers
        shorter._events = self._events[:left]
        shorter._parts = self._parts[:left]
        shorter._states = states
        return shorter

    def widened(self, numbers):
        """The run with more members."""
        if not is_numbers(self._system, numbers):
            raise InvalidRun("these are no numbers")
        if any([more < number for more, number in zip(numbers, self._numbers)]):
            raise InvalidOperation("there would be fewer members of a pool")
        return Run(self._system, numbers, self._events)

    def each_order(self):
        """All orders in which the events make a run where each has the same past, one by one, ascending."""
        waits, leads = _links(self._parts)
        # The bits of the events that wait for no other one and have no place in the order yet.
        ready = sum([1 << index for index, number in enumerate(waits) if number == 0])
        order, least, is_over = [], 0, False
        while not is_over:
            if len(order) == len(waits):
                yield tuple(order)
            rest = ready >> least
            if rest:
                taken = least + (rest & -rest).bit_length() - 1
                order.append(taken)
                ready = ready ^ 1 << taken
                for later in leads[taken]:
                    waits[later] = waits[later] - 1
                    ready = ready if waits[later] else ready | 1 << later
                least = 0
            elif order:
                taken = order.pop()
                for later in leads[taken]:
                    ready = ready if waits[later] else ready ^ 1 << later
                    waits[later] = waits[later] + 1
                ready = ready | 1 << taken
                least = taken + 1
            else:
                is_over = True

    def is_same(self, value):
        """Whether the value is a run in which each participant takes part in equal events in the same order."""
        if not isinstance(value, Run) or self._system != value._system or self._numbers != value._numbers:
            return False
        return _histories(self._events, self._parts) == _histories(value._events, value._parts)

    def _check_index(self, index):
        """Raise an error if this is not the index of an event."""
        if not is_index(index, len(self._events)):
            raise InvalidNumber(index)

    def _is_part(self, value):
        """Whether the value is an ascending tuple of indices that has with each event its past."""
        if not isinstance(value, tuple) or not all([is_index(index, len(self._events)) for index in value]):
            return False
        kept, pasts = sum([1 << index for index in value]), self.past_bits()
        return is_ascending(value) and not any([pasts[index] & ~kept for index in value])

    def __getitem__(self, index):
        self._check_index(index)
        return self._events[index]

    def __iter__(self):
        raise TypeError("a run is not iterable")

    def __len__(self):
        return len(self._events)

    def __eq__(self, other):
        return (isinstance(other, Run) and self._system == other._system and self._numbers == other._numbers
                and self._events == other._events)

    def __str__(self):
        return f"run of {len(self._events)} events, {sum(self._numbers)} members"

    def __add__(self, other):
        if not _is_event_there(self._system, self._numbers, other):
            raise InvalidOperation("this is no event whose members are there")
        if len(self._events) >= MAX_EVENTS:
            raise TooMany(MAX_EVENTS)
        parts = (parts_of(self._system, other),)
        states = _states_behind(self._states, parts, len(self._events))
        # Only the new event is played: a run that is put together event by event is not played again for each. A run
        # that has nobody is made soonest; all that it knows is replaced.
        grown = Run(self._system, (0,) * len(self._numbers))
        grown._numbers = self._numbers
        grown._events = self._events + (other,)
        grown._parts = self._parts + parts
        grown._states = states
        if self._pasts is not None:
            told = _pasts_behind(self._latest, self._pasts, parts)
            grown._latest = told[0]
            grown._pasts = told[1]
        return grown


def _are_numbers(value):
    """Whether the value is a tuple of numbers of members that a run can have."""
    if not isinstance(value, tuple):
        return False
    for number in value:
        if not isinstance(number, int) or isinstance(number, bool) or not 0 <= number < MAX_MEMBERS:
            return False
    return True


def _can_follow(moves, chosen, number):
    """Whether a member can take part in the next of these moves, behind those that were chosen for the earlier ones."""
    move = moves[len(chosen)]
    for earlier, taken in zip(moves, chosen):
        if earlier[0] == move[0] and taken == number:
            return False
        if earlier == move and taken > number:
            return False
    return True


def _each_choice(moves, rooms, chosen):
    """The members that can take part in these moves, ascending, with those that are chosen already as the first."""
    if len(chosen) == len(moves):
        yield chosen
        return
    for number in rooms[moves[len(chosen)][:2]]:
        if _can_follow(moves, chosen, number):
            longer = (*chosen, number)
            yield from _each_choice(moves, rooms, longer)


def _is_event_there(system, numbers, value):
    """Whether the value is an event whose members are among so many."""
    if not is_event(system, value):
        return False
    return all([number < numbers[at] for number, at in zip(value[1], system.plan(value[0]).places)])


def _parts_of_all(system, numbers, value):
    """The parts of each of these events; None if this is no tuple of events whose members are among so many."""
    if not isinstance(value, tuple):
        return None
    known = {}
    found = []
    for event in value:
        # Equal events have equal parts, but not all that is equal to an event is one, or can be a key.
        if not isinstance(event, tuple) or len(event) != 2 or not isinstance(event[0], str):
            return None
        if not _are_numbers(event[1]):
            return None
        if event not in known:
            if not _is_event_there(system, numbers, event):
                return None
            known[event] = parts_of(system, event)
        found.append(known[event])
    return tuple(found)


def _start_states(system, numbers):
    """The dict from the participants, ascending, to their first states."""
    many = {agent: 1 for agent in system.agents}
    for pool, number in zip(system.pools, numbers):
        many[pool] = number
    return {(owner, at): system.states(owner)[0] for owner in sorted(many) for at in range(many[owner])}


def _states_behind(states, rows, index):
    """The states of the participants behind events with these parts, of which the first one has this index."""
    found = {who: states[who] for who in states}
    for at, parts in enumerate(rows):
        for who, source, goal in parts:
            if found[who] != source:
                raise NotPossible(index + at)
            found[who] = goal
    return found


def _pasts_behind(latest, pasts, rows):
    """The latest events of the participants and the pasts of all events, behind some more with these parts."""
    new_latest = {who: latest[who] for who in latest}
    new_pasts = list(pasts)
    for parts in rows:
        index, past = len(new_pasts), 0
        for who, _, _ in parts:
            if who in new_latest:
                past = past | new_pasts[new_latest[who]] | 1 << new_latest[who]
            new_latest[who] = index
        new_pasts.append(past)
    return new_latest, tuple(new_pasts)


def _links(rows):
    """For each event, how many events its participants come from at once, and which events they go to at once."""
    waits, leads, latest = [], [[] for _ in rows], {}
    for index, parts in enumerate(rows):
        sources = sorted({latest[who] for who, _, _ in parts if who in latest})
        waits.append(len(sources))
        for source in sources:
            leads[source].append(index)
        for who, _, _ in parts:
            latest[who] = index
    return waits, leads


def _histories(events, rows):
    """The dict from the participants of some events to those that each takes part in, in order."""
    found = {}
    for event, parts in zip(events, rows):
        for who, _, _ in parts:
            found.setdefault(who, []).append(event)
    return found
