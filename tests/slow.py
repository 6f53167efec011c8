"""Slow and simple ways to tell what the package tells, by the words of the document alone.

Of the package, only systems and actions are used. A state of affairs is a dict from participants to what they are in:
states, or pairs of a state and a tag.
"""

import itertools
import random

from groupclocks.base.systems import Action, System


def members_of(system, action):
    """The moves of pools in an action."""
    return [move for move in action.moves if move[0] in system.pools]


def all_events(system, numbers):
    """All events with so many members, ascending."""
    many, found = dict(zip(sorted(system.pools), numbers)), []
    for action in system.actions:
        moves = members_of(system, action)
        for members in itertools.product(*[range(many[move[0]]) for move in moves]):
            taken = list(zip(moves, members))
            if all(is_well_chosen(one, other) for one, other in itertools.combinations(taken, 2)):
                found.append((action.called, members))
    return sorted(found)


def is_well_chosen(one, other):
    """Whether two members, each with its move, can take part in one event, the first one in the earlier move."""
    if one[0] == other[0]:
        return one[1] < other[1]
    return one[0][0] != other[0][0] or one[1] != other[1]


def people_of(system, event):
    """The triples (participant, source, target) of an event."""
    found, members = [], list(event[1])
    for owner, source, goal in system[event[0]].moves:
        found.append(((owner, members.pop(0) if owner in system.pools else 0), source, goal))
    return found


def start_of(system, numbers):
    """The states of all participants at the start, ascending."""
    many = {**{agent: 1 for agent in system.agents}, **dict(zip(sorted(system.pools), numbers))}
    return {(owner, at): system.states(owner)[0] for owner in sorted(many) for at in range(many[owner])}


def behind(system, states, event):
    """The states behind an event, or None if it is not possible."""
    people = people_of(system, event)
    if any(states[who] != source for who, source, _ in people):
        return None
    return {**states, **{who: goal for who, _, goal in people}}


def at_end(system, numbers, events):
    """The states at the end of some events, or None if they are no run."""
    states = start_of(system, numbers)
    for event in events:
        states = behind(system, states, event) if states is not None else None
    return states


def all_runs(system, numbers, most):
    """The events of all runs of at most so many events, with their states at the end."""
    events, level = all_events(system, numbers), [((), start_of(system, numbers))]
    for _ in range(most + 1):
        yield from level
        following = [(done + (event,), behind(system, states, event)) for done, states in level for event in events]
        level = [(done, states) for done, states in following if states is not None]


def all_pasts(system, events):
    """For each event, the set of the indices of those before it."""
    people = [{who for who, _, _ in people_of(system, event)} for event in events]
    pasts = []
    for index in range(len(events)):
        past = {at for at in range(index) if people[at] & people[index]}
        pasts.append(past.union(*[pasts[at] for at in past]))
    return pasts


def is_concurrent(pasts, one, other):
    """Whether two different events are concurrent."""
    return one != other and one not in pasts[other] and other not in pasts[one]


def does_match(states, pattern):
    """Whether participants are as a pattern asks, with tags or without them."""
    lone, shared = pattern
    there = [(who[0], *(state if isinstance(state, tuple) else (state,))) for who, state in states.items()]
    return all(place in there for place in lone) and all(there.count(entry[:-1]) >= entry[-1] for entry in shared)


def all_states(system, numbers):
    """All ways in which the participants can be in states of their owners, whether a run leads there or not."""
    start = start_of(system, numbers)
    for chosen in itertools.product(*[system.states(owner) for owner, _ in start]):
        yield dict(zip(start, chosen))


def all_numbers(system, most):
    """All numbers with at most so many members in all."""
    return [numbers for numbers in itertools.product(range(most + 1), repeat=len(system.pools)) if sum(numbers) <= most]


def frozen(states):
    """The same as a value that can be in a set."""
    return tuple(sorted(states.items()))


def distances(system, numbers, target):
    """For all states of affairs, frozen, how many events lead to a match of the target at least; none if no events do."""
    events, found, level = all_events(system, numbers), {}, []
    everything = list(all_states(system, numbers))
    ahead = {}
    for states in everything:
        for event in events:
            following = behind(system, states, event)
            if following is not None:
                ahead.setdefault(frozen(following), []).append(frozen(states))
        if does_match(states, target):
            level.append(frozen(states))
    far = 0
    while level:
        found.update({states: far for states in level})
        level = sorted({one for states in level for one in ahead.get(states, ()) if one not in found})
        far += 1
    return found


def all_patterns(system, most):
    """All patterns with at most so many members in all."""
    lone = [[()] + [((agent, state),) for state in states] for agent, states in system.agents.items()]
    places = sorted((pool, state) for pool, states in system.pools.items() for state in states)
    for chosen in itertools.product(*lone):
        for numbers in itertools.product(range(most + 1), repeat=len(places)):
            if sum(numbers) <= most:
                shared = tuple((*place, number) for place, number in zip(places, numbers) if number)
                yield tuple(sorted(itertools.chain(*chosen))), shared


def is_under(one, other):
    """Whether the second pattern asks for all that the first one asks for."""
    there = {entry[:-1]: entry[-1] for entry in other[1]}
    return set(one[0]) <= set(other[0]) and all(there.get(entry[:-1], 0) >= entry[-1] for entry in one[1])


def least_of(patterns):
    """The least ones of some patterns, ascending."""
    different = sorted(set(patterns))
    return tuple(one for one in different if not any(other != one and is_under(other, one) for other in different))


def ahead_of(system, name, pattern):
    """The pattern ahead of a pattern by an action, or None."""
    lone, shared = dict(pattern[0]), {entry[:-1]: entry[-1] for entry in pattern[1]}
    needed = {}
    for owner, _, goal in system[name].moves:
        if owner in system.agents:
            if lone.pop(owner, goal) != goal:
                return None
        else:
            shared[owner, goal] = max(shared.get((owner, goal), 0) - 1, 0)
    for owner, source, _ in system[name].moves:
        if owner in system.agents:
            lone[owner] = source
        else:
            needed[owner, source] = needed.get((owner, source), 0) + 1
    for place, number in needed.items():
        shared[place] = shared.get(place, 0) + number
    return tuple(sorted(lone.items())), tuple((*place, shared[place]) for place in sorted(shared) if shared[place])


def rounds_of(system, target, most=1000):
    """The rounds of a target up to the last one; None if one has more than so many patterns."""
    rounds = [(target,)]
    while True:
        more = [ahead_of(system, name, pattern) for pattern in rounds[-1] for name in system.names]
        following = least_of([*rounds[-1], *[pattern for pattern in more if pattern is not None]])
        if following == rounds[-1]:
            return tuple(rounds)
        if len(following) > most:
            return None
        rounds.append(following)


def random_system(seed, agents, pools, states, actions, moves=3):
    """Some system, with so many of each at most; the same one for the same numbers."""
    source = random.Random(seed)
    lone = {name: tuple("rst"[:source.randint(1, states)]) for name in "pq"[:source.randint(0, agents)]}
    shared = {name: tuple("rst"[:source.randint(1, states)]) for name in "xy"[:source.randint(0 if lone else 1, pools)]}
    known, made = {**lone, **shared}, []
    for letter in "abcdefghijklmnop"[:source.randint(1, actions)]:
        owners = [source.choice(sorted(known)) for _ in range(source.randint(1, moves))]
        owners = [name for at, name in enumerate(owners) if name in shared or name not in owners[:at]]
        chosen = [(name, source.choice(known[name]), source.choice(known[name])) for name in owners]
        made.append(Action(letter, tuple(chosen)))
    return System(lone, shared, tuple(made))
