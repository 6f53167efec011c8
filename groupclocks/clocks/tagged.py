"""Tags in watched runs, watched patterns, and what is ahead of them."""

from groupclocks.cover.fields import Places, Step
from groupclocks.cover.patterns import needs_of, pattern_at

FRESH = "fresh"
BEHIND = "behind"
TOLD = "told"
ASCENDING = ("behind", "fresh", "told")


def tagged_places(system):
    """The places of watched patterns: owners, states and tags."""
    if "tagged" not in system.notes:
        system.notes["tagged"] = Places(system.agents, system.pools, [(tag,) for tag in ASCENDING])
    return system.notes["tagged"]


def tags_behind(tags, does_carry):
    """The tags that the participants of an event have behind it, if they have these ahead of it."""
    if does_carry and TOLD in tags:
        return (TOLD,) * len(tags)
    if tags == (FRESH,) * len(tags):
        return tags
    return tuple([BEHIND if tag == FRESH else tag for tag in tags])


def tags_at_end(run, index, carriers):
    """The dict from the participants of a run to their tags at its end, if this event is the watched one."""
    tags = {who: FRESH for who in run.finals}
    for at in range(index, len(run)):
        people = [who for who, _, _ in run.parts[at]]
        told = tags_behind(tuple([tags[who] for who in people]), run[at][0] in carriers)
        for who, tag in zip(people, told):
            tags[who] = TOLD if at == index else tag
    return tags


def tagged_there(run, tags):
    """The dict from the places with tags at the end of a run to the numbers of participants that are there."""
    there = {}
    for who, state in run.finals.items():
        place = (who[0], state, tags[who])
        there[place] = there.get(place, 0) + 1
    return there


def tagged_steps(system, fields, name, does_carry):
    """The steps of an action, one for each row of tags that its participants can have ahead of it."""
    if (name, does_carry) not in fields.known_steps:
        fields.known_steps[name, does_carry] = _new_steps(system, fields, name, does_carry)
    return fields.known_steps[name, does_carry]


def _new_steps(system, fields, name, does_carry):
    """The steps of an action, one for each row of tags."""
    found = []
    for row in tag_rows(system[name].moves, ASCENDING):
        moves = list(zip(system[name].moves, row, tags_behind(row, does_carry)))
        befores = [(owner, source, tag) for (owner, source, _), tag, _ in moves]
        found.append(Step(fields, name, befores, [(owner, goal, tag) for (owner, _, goal), _, tag in moves]))
    return found


def pattern_ahead_of_watched(system, name, pattern):
    """The pattern ahead of a watched pattern by the watched event, if that is of this action, or None."""
    lone, shared = pattern
    moves = system[name].moves
    if not all([_can_lead_to(moves, place) for place in lone]):
        return None
    if not all([_can_lead_members_to(moves, place, number) for *place, number in shared]):
        return None
    agents, members = needs_of(system, name)
    asked = {entry[:2]: entry[2] for entry in members}
    for *place, tag, number in shared:
        if tag == FRESH:
            asked[tuple(place)] = asked.get(tuple(place), 0) + number
    agents = [*agents, *[place[:2] for place in lone if place[2] == FRESH]]
    return tuple(sorted(agents)), tuple([(*place, asked[place]) for place in sorted(asked)])


def _can_lead_to(moves, place):
    """Whether an agent can be in a place with a tag behind the watched event with these moves."""
    owner, state, tag = place
    goals = [goal for mover, _, goal in moves if mover == owner]
    return (tag == FRESH and not goals) or (tag == TOLD and goals == [state])


def _can_lead_members_to(moves, place, number):
    """Whether so many members can be in a place with a tag behind the watched event with these moves."""
    owner, state, tag = place
    goals = [goal for mover, _, goal in moves if mover == owner and goal == state]
    return tag == FRESH or (tag == TOLD and number <= len(goals))


def tag_rows(moves, tags):
    """The rows of ascending tags for the participants of some moves; of rows that differ in equal moves only, one."""
    rows = [()]
    for at, move in enumerate(moves):
        is_equal = at > 0 and moves[at - 1] == move
        rows = [(*row, tag) for row in rows for tag in tags if not is_equal or row[-1] <= tag]
    return rows


def tagged_needs(system, names, tags, wanted):
    """The needs of some actions with each row of these ascending tags that has a wanted one.

    Each of these watched patterns leads to the name of such an action and the places of its participants.
    """
    found = {}
    for name in names:
        moves = system[name].moves
        for row in tag_rows(moves, tags):
            places = [(owner, source, tag) for (owner, source, _), tag in zip(moves, row)]
            if wanted in row:
                found.setdefault(pattern_at(system, places), (name, places))
    return found
