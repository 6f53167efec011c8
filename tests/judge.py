"""Slow and simple ways to judge certificates by the words of the document, and values near right ones."""

import itertools

from tests import slow

TAGS = ("behind", "fresh", "told")


def near(value, words=("", "A", "a")):
    """The values that differ from this one in one place; `words` can stand where a string does."""
    yield from near_here(value, words)
    if isinstance(value, tuple):
        for at, part in enumerate(value):
            for other in near(part, words):
                yield value[:at] + (other,) + value[at + 1:]
    if isinstance(value, dict):
        for key in value:
            yield {name: part for name, part in value.items() if name != key}
            for other in near(value[key], words):
                yield {**value, key: other}


def near_here(value, words):
    """The values that differ from this one at the top."""
    yield None
    if isinstance(value, tuple):
        yield list(value)
        yield (value,)
        for at, part in enumerate(value):
            yield value[:at] + value[at + 1:]
            yield value[:at] + (part, part) + value[at + 1:]
            yield value[:at] + value[at + 1:at + 2] + (part,) + value[at + 2:]
    elif isinstance(value, int):
        yield from (value - 1, value + 1, bool(value), str(value), 10 ** 60)
    elif isinstance(value, str):
        yield from words
    elif isinstance(value, dict):
        yield tuple(value.items())
        yield {**value, "zzz": ()}
        yield {**value, 1: ()}


def words_of(system):
    """Words that stand in certificates for a system."""
    states = [state for owner in [*system.agents, *system.pools] for state in system.states(owner)]
    return sorted({*system.names, *system.agents, *system.pools, *states, *TAGS, "closed", "run", "shared", "", "A"})


def is_number(value, least, most):
    """Whether the value is an integer from one to another."""
    return type(value) is int and least <= value <= most


def is_pattern(system, value, tags=None):
    """Whether the value is a pattern, or a watched one if there are tags."""
    if type(value) is not tuple or len(value) != 2 or type(value[0]) is not tuple or type(value[1]) is not tuple:
        return False
    return (are_entries(system, system.agents, value[0], tags) and len({entry[0] for entry in value[0]}) == len(value[0])
            and all(type(entry) is tuple and entry and is_number(entry[-1], 1, 10 ** 60 - 1) for entry in value[1])
            and are_entries(system, system.pools, tuple(entry[:-1] for entry in value[1]), tags))


def are_entries(system, owners, entries, tags):
    """Whether these are ascending tuples of an owner and a state, and perhaps a tag."""
    for entry in entries:
        if type(entry) is not tuple or len(entry) != (2 if tags is None else 3) or not all(type(part) is str for part in entry):
            return False
        if entry[0] not in owners or entry[1] not in system.states(entry[0]) or (tags is not None and entry[2] not in tags):
            return False
    return list(entries) == sorted(set(entries))


def are_patterns(system, value, tags=None):
    """Whether the value is an ascending tuple of at most 2000 patterns."""
    if type(value) is not tuple or len(value) > 2000 or not all(is_pattern(system, one, tags) for one in value):
        return False
    return list(value) == sorted(set(value))


def can_fit(system, pattern):
    """Whether a pattern can fit the start."""
    return all(entry[1] == system.states(entry[0])[0] for part in pattern for entry in part)


def does_bar(system, names, target, value):
    """Whether the value is ("closed", patterns) that bar the target if there are only these actions."""
    if type(value) is not tuple or len(value) != 2 or type(value[0]) is not str or value[0] != "closed" or not are_patterns(system, value[1]):
        return False
    ahead = [slow.ahead_of(system, name, one) for one in value[1] for name in names]
    return (any(slow.is_under(one, target) for one in value[1]) and not any(can_fit(system, one) for one in value[1])
            and all(one is None or any(slow.is_under(other, one) for other in value[1]) for one in ahead))


def is_run(system, value):
    """Whether the value is ("run", numbers, events) of a run."""
    if type(value) is not tuple or len(value) != 3 or type(value[0]) is not str or value[0] != "run":
        return False
    _, numbers, events = value
    if type(numbers) is not tuple or len(numbers) != len(system.pools) or not all(is_number(one, 0, 2000) for one in numbers):
        return False
    return type(events) is tuple and are_events(system, numbers, events) and slow.at_end(system, numbers, events) is not None


def are_events(system, numbers, events):
    """Whether all of these are events whose members are there."""
    for event in events:
        if type(event) is not tuple or len(event) != 2 or type(event[0]) is not str or event[0] not in system.names:
            return False
        if type(event[1]) is not tuple or not all(type(one) is int for one in event[1]):
            return False
        moves = slow.members_of(system, system[event[0]])
        many = dict(zip(sorted(system.pools), numbers))
        if len(moves) != len(event[1]) or not all(0 <= one < many[move[0]] for move, one in zip(moves, event[1])):
            return False
        taken = list(zip(moves, event[1]))
        if not all(slow.is_well_chosen(one, other) for one, other in itertools.combinations(taken, 2)):
            return False
    return True


def does_reach(system, names, target, value):
    """Whether the value is ("run", numbers, events) of a run with these actions alone that matches the target."""
    return (is_run(system, value) and all(name in names for name, _ in value[2])
            and slow.does_match(slow.at_end(system, value[1], value[2]), target))


def does_bar_watched(watch, targets, value):
    """Whether the value is ("closed", early, late) that bar some targets of a watch."""
    if type(value) is not tuple or len(value) != 3 or type(value[0]) is not str or value[0] != "closed":
        return False
    _, early, late = value
    if not are_patterns(watch.system, early) or not are_patterns(watch.system, late, TAGS):
        return False
    return slow.is_closed_pair(watch, targets, early, late) and not any(can_fit(watch.system, one) for one in early)


def tagged_needs(system, name, tags, wanted):
    """The needs of an action with each row of tags that has a wanted one, as watched patterns."""
    moves, found = system[name].moves, set()
    for row in itertools.product(tags, repeat=len(moves)):
        if wanted in row:
            lone, shared = [], {}
            for (owner, source, _), tag in zip(moves, row):
                if owner in system.agents:
                    lone.append((owner, source, tag))
                else:
                    shared[owner, source, tag] = shared.get((owner, source, tag), 0) + 1
            found.add((tuple(sorted(lone)), tuple((*place, shared[place]) for place in sorted(shared))))
    return sorted(found)


def is_wrong_at_end(system, group, asked, names, numbers, events):
    """Whether the last event of a run is of the group or asked, and its number for the group is not right."""
    if not events or events[-1][0] not in [*group, *asked]:
        return False
    stamps, _ = slow.stamps_of(system, (group,), (names,), numbers, events)
    return stamps[-1] != slow.right_stamps(system, (group,), events)[-1]


def before_last(system, events):
    """The names of the actions of the events before the last one."""
    return [events[at][0] for at in slow.all_pasts(system, events)[-1]]
