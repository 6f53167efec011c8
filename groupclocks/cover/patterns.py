"""Patterns: what runs end like, and what must be ahead of an event so that they do."""

from groupclocks.base.checks import check_action_name, check_system
from groupclocks.base.systems import MAX_SHARED
from groupclocks.cover.fields import are_there, greatest_number, plain_places, plain_step
from groupclocks.errors import InvalidOperation
from groupclocks.runs.runs import check_run

MAX_TARGET = 40


def is_pattern(system, value):
    """Whether the value is a pattern of the system."""
    check_system(system)
    return plain_places(system).has_pattern(value)


def is_target(system, value):
    """Whether the value is a pattern of the system that asks for few enough members to be a target."""
    return is_pattern(system, value) and greatest_number((value,)) <= MAX_TARGET


def is_below(system, pattern, value):
    """Whether the value is a pattern that asks for all that the pattern asks for."""
    _check_pattern(system, pattern)
    if not is_pattern(system, value):
        return False
    lone, shared = value
    return are_there({**{place: 1 for place in lone}, **{entry[:2]: entry[2] for entry in shared}}, pattern)


def does_match(run, pattern):
    """Whether the run matches the pattern at its end."""
    check_run(run)
    _check_pattern(run.system, pattern)
    there = {}
    for (owner, _), state in run.finals.items():
        there[owner, state] = there.get((owner, state), 0) + 1
    return are_there(there, pattern)


def start_row(system, pattern):
    """How many members of each pool the pattern asks for, if it can fit the start; otherwise None."""
    _check_pattern(system, pattern)
    lone, shared = pattern
    if not all([entry[1] == system.states(entry[0])[0] for entry in [*lone, *shared]]):
        return None
    asked = {pool: number for pool, _, number in shared}
    return tuple([asked.get(pool, 0) for pool in system.pools])


def needs_of(system, name):
    """The pattern of the sources of an action."""
    check_system(system)
    check_action_name(system, name)
    return pattern_at(system, [move[:2] for move in system[name].moves])


def needs_of_both(system, one, other):
    """The sum of the needs of two actions, or of one twice; None if an agent moves in both."""
    check_system(system)
    check_action_name(system, one)
    check_action_name(system, other)
    if shared_agents(system, one, other):
        return None
    return pattern_at(system, [move[:2] for move in (*system[one].moves, *system[other].moves)])


def pattern_ahead(system, name, pattern):
    """The least pattern of which each match lets an event of the action lead to a match of the given one, or None."""
    check_system(system)
    check_action_name(system, name)
    _check_pattern(system, pattern)
    # The needs of an action ask for at most so many members more.
    fields = plain_places(system).fields_for(greatest_number((pattern,)) + MAX_SHARED)
    number = fields.ahead(plain_step(system, fields, name), fields.number_of(pattern))
    return None if number is None else fields.pattern_of(number)


def least_patterns(system, patterns):
    """The patterns that no other one of them is below, ascending."""
    check_system(system)
    places = plain_places(system)
    if not isinstance(patterns, tuple) or not places.have_patterns(patterns):
        raise InvalidOperation("these are no patterns")
    fields = places.fields_for(greatest_number(patterns))
    least = fields.least([fields.number_of(pattern) for pattern in patterns])
    return tuple(sorted([fields.pattern_of(number) for number in least]))


def shared_agents(system, one, other):
    """The agents that move in both actions, ascending."""
    return [owner for owner in system[one].owners if owner in system[other].owners and owner in system.agents]


def pattern_at(system, places):
    """The pattern that asks for a participant at each of these places, with tags or without them."""
    agents = system.agents
    lone = [place for place in places if place[0] in agents]
    shared = {}
    for place in places:
        if place[0] not in agents:
            shared[place] = shared.get(place, 0) + 1
    return tuple(sorted(lone)), tuple([(*place, shared[place]) for place in sorted(shared)])


def _check_pattern(system, pattern):
    """Raise an error if this is no pattern of the system."""
    if not is_pattern(system, pattern):
        raise InvalidOperation("this is no pattern")
