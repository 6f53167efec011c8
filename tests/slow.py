"""Slow and simple ways to tell what the package tells, by the words of the document alone.

Of the package, only systems and actions are used. A state of affairs is a dict from participants to what they are in:
states, or pairs of a state and a tag.
"""

import itertools
import random

from groupclocks.base.systems import Action, System


def members_of(system, action):
    """The moves of pools in an action."""
    return [move for move in action.moves if move[0] in system.pools]


def all_events(system, numbers):
    """All events with so many members, ascending."""
    many, found = dict(zip(sorted(system.pools), numbers)), []
    for action in system.actions:
        moves = members_of(system, action)
        for members in itertools.product(*[range(many[move[0]]) for move in moves]):
            taken = list(zip(moves, members))
            if all(is_well_chosen(one, other) for one, other in itertools.combinations(taken, 2)):
                found.append((action.called, members))
    return sorted(found)


def is_well_chosen(one, other):
    """Whether two members, each with its move, can take part in one event, the first one in the earlier move."""
    if one[0] == other[0]:
        return one[1] < other[1]
    return one[0][0] != other[0][0] or one[1] != other[1]


def people_of(system, event):
    """The triples (participant, source, target) of an event."""
    found, members = [], list(event[1])
    for owner, source, goal in system[event[0]].moves:
        found.append(((owner, members.pop(0) if owner in system.pools else 0), source, goal))
    return found


def start_of(system, numbers):
    """The states of all participants at the start, ascending."""
    many = {**{agent: 1 for agent in system.agents}, **dict(zip(sorted(system.pools), numbers))}
    return {(owner, at): system.states(owner)[0] for owner in sorted(many) for at in range(many[owner])}


def behind(system, states, event):
    """The states behind an event, or None if it is not possible."""
    people = people_of(system, event)
    if any(states[who] != source for who, source, _ in people):
        return None
    return {**states, **{who: goal for who, _, goal in people}}


def at_end(system, numbers, events):
    """The states at the end of some events, or None if they are no run."""
    states = start_of(system, numbers)
    for event in events:
        states = behind(system, states, event) if states is not None else None
    return states


def all_runs(system, numbers, most):
    """The events of all runs of at most so many events, with their states at the end."""
    events, level = all_events(system, numbers), [((), start_of(system, numbers))]
    for _ in range(most + 1):
        yield from level
        following = [(done + (event,), behind(system, states, event)) for done, states in level for event in events]
        level = [(done, states) for done, states in following if states is not None]


def all_pasts(system, events):
    """For each event, the set of the indices of those before it."""
    people = [{who for who, _, _ in people_of(system, event)} for event in events]
    pasts = []
    for index in range(len(events)):
        past = {at for at in range(index) if people[at] & people[index]}
        pasts.append(past.union(*[pasts[at] for at in past]))
    return pasts


def is_concurrent(pasts, one, other):
    """Whether two different events are concurrent."""
    return one != other and one not in pasts[other] and other not in pasts[one]


def does_match(states, pattern):
    """Whether participants are as a pattern asks, with tags or without them."""
    lone, shared = pattern
    there = [(who[0], *(state if isinstance(state, tuple) else (state,))) for who, state in states.items()]
    return all(place in there for place in lone) and all(there.count(entry[:-1]) >= entry[-1] for entry in shared)


def all_states(system, numbers):
    """All ways in which the participants can be in states of their owners, whether a run leads there or not."""
    start = start_of(system, numbers)
    for chosen in itertools.product(*[system.states(owner) for owner, _ in start]):
        yield dict(zip(start, chosen))


def all_numbers(system, most):
    """All numbers with at most so many members in all."""
    return [numbers for numbers in itertools.product(range(most + 1), repeat=len(system.pools)) if sum(numbers) <= most]


def frozen(states):
    """The same as a value that can be in a set."""
    return tuple(sorted(states.items()))


def distances(system, numbers, target):
    """For all states of affairs, frozen, how many events lead to a match of the target at least; none if no events do."""
    events, found, level = all_events(system, numbers), {}, []
    everything = list(all_states(system, numbers))
    ahead = {}
    for states in everything:
        for event in events:
            following = behind(system, states, event)
            if following is not None:
                ahead.setdefault(frozen(following), []).append(frozen(states))
        if does_match(states, target):
            level.append(frozen(states))
    far = 0
    while level:
        found.update({states: far for states in level})
        level = sorted({one for states in level for one in ahead.get(states, ()) if one not in found})
        far += 1
    return found


def all_patterns(system, most):
    """All patterns with at most so many members in all."""
    lone = [[()] + [((agent, state),) for state in states] for agent, states in system.agents.items()]
    places = sorted((pool, state) for pool, states in system.pools.items() for state in states)
    for chosen in itertools.product(*lone):
        for numbers in itertools.product(range(most + 1), repeat=len(places)):
            if sum(numbers) <= most:
                shared = tuple((*place, number) for place, number in zip(places, numbers) if number)
                yield tuple(sorted(itertools.chain(*chosen))), shared


def is_under(one, other):
    """Whether the second pattern asks for all that the first one asks for."""
    there = {entry[:-1]: entry[-1] for entry in other[1]}
    return set(one[0]) <= set(other[0]) and all(there.get(entry[:-1], 0) >= entry[-1] for entry in one[1])


def least_of(patterns):
    """The least ones of some patterns, ascending."""
    different = sorted(set(patterns))
    return tuple(one for one in different if not any(other != one and is_under(other, one) for other in different))


def ahead_of(system, name, pattern):
    """The pattern ahead of a pattern by an action, or None."""
    lone, shared = dict(pattern[0]), {entry[:-1]: entry[-1] for entry in pattern[1]}
    needed = {}
    for owner, _, goal in system[name].moves:
        if owner in system.agents:
            if lone.pop(owner, goal) != goal:
                return None
        else:
            shared[owner, goal] = max(shared.get((owner, goal), 0) - 1, 0)
    for owner, source, _ in system[name].moves:
        if owner in system.agents:
            lone[owner] = source
        else:
            needed[owner, source] = needed.get((owner, source), 0) + 1
    for place, number in needed.items():
        shared[place] = shared.get(place, 0) + number
    return tuple(sorted(lone.items())), tuple((*place, shared[place]) for place in sorted(shared) if shared[place])


def rounds_of(system, target, most=1000):
    """The rounds of a target up to the last one; None if one has more than so many patterns."""
    rounds = [(target,)]
    while True:
        more = [ahead_of(system, name, pattern) for pattern in rounds[-1] for name in system.names]
        following = least_of([*rounds[-1], *[pattern for pattern in more if pattern is not None]])
        if following == rounds[-1]:
            return tuple(rounds)
        if len(following) > most:
            return None
        rounds.append(following)


def random_system(seed, agents, pools, states, actions, moves=3):
    """Some system, with so many of each at most; the same one for the same numbers."""
    source = random.Random(seed)
    lone = {name: tuple("rst"[:source.randint(1, states)]) for name in "pq"[:source.randint(0, agents)]}
    shared = {name: tuple("rst"[:source.randint(1, states)]) for name in "xy"[:source.randint(0 if lone else 1, pools)]}
    known, made = {**lone, **shared}, []
    for letter in "abcdefghijklmnop"[:source.randint(1, actions)]:
        owners = [source.choice(sorted(known)) for _ in range(source.randint(1, moves))]
        owners = [name for at, name in enumerate(owners) if name in shared or name not in owners[:at]]
        chosen = [(name, source.choice(known[name]), source.choice(known[name])) for name in owners]
        made.append(Action(letter, tuple(chosen)))
    return System(lone, shared, tuple(made))


def reachable_states(system, numbers):
    """All states of affairs to which runs with so many members lead."""
    events, level = all_events(system, numbers), [start_of(system, numbers)]
    found = {frozen(level[0]): level[0]}
    while level:
        following = [behind(system, states, event) for states in level for event in events]
        level = []
        for states in following:
            if states is not None and frozen(states) not in found:
                found[frozen(states)] = states
                level.append(states)
    return list(found.values())


def can_be_concurrent(system, numbers, one, other):
    """Whether in some state of affairs events of both actions are possible that share no participant."""
    events = all_events(system, numbers)
    for states in reachable_states(system, numbers):
        possible = [event for event in events if behind(system, states, event) is not None]
        for first in [event for event in possible if event[0] == one]:
            mine = {who for who, _, _ in people_of(system, first)}
            for second in [event for event in possible if event[0] == other]:
                if not mine & {who for who, _, _ in people_of(system, second)}:
                    return True
    return False


def stamps_of(system, groups, carriers, numbers, events):
    """The stamps of the events, and the numbers of the participants at the end, by the words of [0.16]."""
    kept = {who: [0] * len(groups) for who in start_of(system, numbers)}
    stamps = []
    for event in events:
        people = [who for who, _, _ in people_of(system, event)]
        stamp = []
        for at, group in enumerate(groups):
            number = max(kept[who][at] for who in people)
            stamp.append(number + 1 if event[0] in group else number)
            if event[0] in group or event[0] in carriers[at]:
                for who in people:
                    kept[who][at] = stamp[at]
        stamps.append(tuple(stamp))
    return tuple(stamps), {who: tuple(numbers) for who, numbers in kept.items()}


def right_stamps(system, groups, events):
    """For each event and group, how many events of the group are before it or are it."""
    pasts = all_pasts(system, events)
    return tuple(tuple(sum(events[at][0] in group for at in pasts[index] | {index}) for group in groups)
                 for index in range(len(events)))


def tagged_behind(system, tagged, event, carriers, is_watched=False):
    """The states and tags behind an event, by the words of [9.1], or None if it is not possible."""
    people = people_of(system, event)
    if any(tagged[who][0] != source for who, source, _ in people):
        return None
    tags = [tagged[who][1] for who, _, _ in people]
    if is_watched or (event[0] in carriers and "told" in tags):
        tags = ["told"] * len(tags)
    elif set(tags) != {"fresh"}:
        tags = ["behind" if tag == "fresh" else tag for tag in tags]
    return {**tagged, **{who: (goal, tag) for (who, _, goal), tag in zip(people, tags)}}


def tagged_at_end(system, numbers, events, index, carriers):
    """The states and tags at the end of a run in which the event with this index is the watched one."""
    states = at_end(system, numbers, events[:index])
    tagged = {who: (state, "fresh") for who, state in states.items()}
    for at, event in enumerate(events[index:]):
        tagged = tagged_behind(system, tagged, event, carriers, at == 0)
    return tagged


def watched_ends(system, numbers, starts, barred, carriers):
    """All states of affairs with tags at the ends of watched runs with so many members."""
    events, level = all_events(system, numbers), []
    for states in reachable_states(system, numbers):
        fresh = {who: (state, "fresh") for who, state in states.items()}
        level += [tagged_behind(system, fresh, event, carriers, True) for event in events if event[0] in starts]
    found = {}
    while level:
        new = {frozen(tagged): tagged for tagged in level if tagged is not None}
        new = {key: tagged for key, tagged in new.items() if key not in found}
        found.update(new)
        allowed = [event for event in events if event[0] not in barred]
        level = [tagged_behind(system, tagged, event, carriers) for tagged in new.values() for event in allowed]
    return list(found.values())


def all_tagged(system, numbers):
    """All ways in which the participants can be in states of their owners with tags."""
    start = start_of(system, numbers)
    places = [[(state, tag) for state in system.states(owner) for tag in ("behind", "fresh", "told")] for owner, _ in start]
    for chosen in itertools.product(*places):
        yield dict(zip(start, chosen))


def all_watched_patterns(system, most):
    """All watched patterns with at most so many members in all."""
    tags = ("behind", "fresh", "told")
    lone = [[()] + [((agent, state, tag),) for state in states for tag in tags] for agent, states in system.agents.items()]
    places = sorted((pool, state, tag) for pool, states in system.pools.items() for state in states for tag in tags)
    members = [()]
    for many in range(1, most + 1):
        for chosen in itertools.combinations_with_replacement(places, many):
            members.append(tuple((*place, chosen.count(place)) for place in sorted(set(chosen))))
    for chosen in itertools.product(*lone):
        for shared in members:
            yield tuple(sorted(itertools.chain(*chosen))), shared


def watched_ahead(system, name, pattern, carriers):
    """The watched patterns ahead of a watched pattern by an action, by the words of [9.3]."""
    moves, found = system[name].moves, []
    for tags in itertools.product(("behind", "fresh", "told"), repeat=len(moves)):
        lone = {owner: place for owner, *place in pattern[0]}
        shared = {entry[:-1]: entry[-1] for entry in pattern[1]}
        told = tags
        if name in carriers and "told" in tags:
            told = ("told",) * len(tags)
        elif set(tags) != {"fresh"}:
            told = tuple("behind" if tag == "fresh" else tag for tag in tags)
        if any(owner in lone and lone[owner] != [goal, tag] for (owner, _, goal), tag in zip(moves, told)):
            continue
        for (owner, _, goal), tag in zip(moves, told):
            if (owner, goal, tag) in shared:
                shared[owner, goal, tag] = max(shared[owner, goal, tag] - 1, 0)
        for (owner, source, _), tag in zip(moves, tags):
            if owner in system.agents:
                lone[owner] = [source, tag]
        for (owner, source, _), tag in zip(moves, tags):
            if owner in system.pools:
                shared[owner, source, tag] = shared.get((owner, source, tag), 0) + 1
        found.append((tuple(sorted((owner, *place) for owner, place in lone.items())),
                      tuple((*place, shared[place]) for place in sorted(shared) if shared[place])))
    return least_of(found)


def watched_first(system, name, pattern):
    """The pattern ahead of a watched pattern by the watched event, by the words of [9.3], or None."""
    lone, shared = {}, {}
    moves = list(system[name].moves)
    goals = [(owner, goal) for owner, _, goal in moves]
    for owner, source, _ in moves:
        if owner in system.agents:
            lone[owner] = source
        else:
            shared[owner, source] = shared.get((owner, source), 0) + 1
    for owner, state, tag in pattern[0]:
        if tag == "behind" or (tag == "told" and (owner, state) not in goals) or (tag == "fresh" and owner in lone):
            return None
        if tag == "fresh":
            lone[owner] = state
    for owner, state, tag, number in pattern[1]:
        if tag == "behind" or (tag == "told" and goals.count((owner, state)) < number):
            return None
        if tag == "fresh":
            shared[owner, state] = shared.get((owner, state), 0) + number
    return tuple(sorted(lone.items())), tuple((*place, shared[place]) for place in sorted(shared))


def is_closed_pair(watch, targets, early, late):
    """Whether these patterns are closed for the targets, by the words of [9.4]."""
    system = watch.system
    behind_all = [one for pattern in late for name in system.names if name not in watch.barred
                  for one in watched_ahead(system, name, pattern, watch.carriers)]
    ahead_all = [watched_first(system, name, pattern) for pattern in late for name in watch.starts]
    ahead_all += [ahead_of(system, name, pattern) for pattern in early for name in system.names]
    return (all(any(is_under(one, pattern) for one in late) for pattern in [*targets, *behind_all])
            and all(pattern is None or any(is_under(one, pattern) for one in early) for pattern in ahead_all))


def watched_rounds(watch, targets, most=1000):
    """The pairs of patterns of all rounds up to the last one, by the words of the class Watch.

    None if some round has more than so many patterns in both parts.
    """
    system, rounds, known = watch.system, [((), least_of(targets))], {}
    allowed = [name for name in system.names if name not in watch.barred]
    while len(rounds[-1][0]) + len(rounds[-1][1]) <= most:
        early, late = rounds[-1]
        for pattern in late:
            if pattern not in known:
                firsts = [watched_first(system, name, pattern) for name in watch.starts]
                later = [watched_ahead(system, name, pattern, watch.carriers) for name in allowed]
                known[pattern] = [one for one in firsts if one is not None], [one for row in later for one in row]
        more = [ahead_of(system, name, pattern) for pattern in early for name in system.names]
        more = [one for one in more if one is not None] + [one for pattern in late for one in known[pattern][0]]
        following = (least_of([*early, *more]), least_of([*late, *[one for pattern in late for one in known[pattern][1]]]))
        if following == rounds[-1]:
            return rounds
        rounds.append(following)
    return None


def linked_system(seed):
    """Some system whose actions mostly share agents two by two; the same one for the same number."""
    source = random.Random(seed)
    lone = {name: tuple("rst"[:source.choice([1, 1, 2, 3])]) for name in "pqm"[:source.randint(2, 3)]}
    shared = {name: tuple("rs"[:source.randint(1, 2)]) for name in "x"[:source.randint(0, 1)]}
    known, made = {**lone, **shared}, []
    for letter in "abcd"[:source.randint(2, 4)]:
        owners = source.sample(sorted(known), min(len(known), source.choice([1, 2, 2, 2])))
        made.append(Action(letter, tuple((name, source.choice(known[name]), source.choice(known[name])) for name in owners)))
    return System(lone, shared, tuple(made))
