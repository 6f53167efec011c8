"""Which actions can be taken out of a system so that two are ordered, or a target is not reachable."""

from groupclocks.base.checks import are_action_names, check_system
from groupclocks.base.sets import is_part, sets_of, without
from groupclocks.cover.patterns import is_target, needs_of_both, shared_agents
from groupclocks.cover.reach import is_closed_form, is_run_form, rounds_of
from groupclocks.errors import InvalidOperation, TooMany

MAX_OTHERS = 10
MAX_TAKEN = 3


def least_repairs(system, one, other):
    """The least sets of other actions without which two actions are ordered, ascending."""
    both = needs_of_both(system, one, other)
    names = without(system.names, (one, other))
    _check_number(names)
    return ((),) if both is None else _least_sets(system, both, names)


def least_blocks(system, target):
    """The least sets of actions without which a target is not reachable, ascending."""
    _check_target(system, target)
    _check_number(system.names)
    return _least_sets(system, target, system.names)


def is_repair(system, one, other, value):
    """Whether two actions are ordered without the actions of this set."""
    both = needs_of_both(system, one, other)
    if not _are_taken(system, value, (one, other)):
        return False
    return both is None or not _rounds_without(system, value, both).least_rows


def is_block(system, target, value):
    """Whether a target is not reachable without the actions of this set."""
    _check_target(system, target)
    return _are_taken(system, value, ()) and not _rounds_without(system, value, target).least_rows


def repair_certificate(system, one, other, names):
    """A certificate that a set of actions is a least repair of two actions."""
    both = needs_of_both(system, one, other)
    _check_taken(system, names, (one, other))
    if both is not None:
        return _certificate(system, both, names)
    if names:
        raise InvalidOperation("nothing has to be taken out")
    return ("shared", shared_agents(system, one, other)[0]), {}


def block_certificate(system, target, names):
    """A certificate that a set of actions is a least block of a target."""
    _check_target(system, target)
    _check_taken(system, names, ())
    return _certificate(system, target, names)


def is_repair_certificate(system, one, other, names, value):
    """Whether the value is a certificate that a set of actions is a least repair of two actions."""
    both = needs_of_both(system, one, other)
    _check_taken(system, names, (one, other))
    if both is not None:
        return _is_certificate(system, both, names, value)
    # Actions that share an agent have no certificate that they are not ordered.
    return value in [(("shared", agent), {}) for agent in shared_agents(system, one, other)] and not names


def is_block_certificate(system, target, names, value):
    """Whether the value is a certificate that a set of actions is a least block of a target."""
    _check_target(system, target)
    _check_taken(system, names, ())
    return _is_certificate(system, target, names, value)


def _check_target(system, target):
    """Raise an error if this is no system, or no target of it."""
    check_system(system)
    if not is_target(system, target):
        raise InvalidOperation("this is no target")


def _check_number(names):
    """Raise an error if there are too many actions that could be taken out."""
    if len(names) > MAX_OTHERS:
        raise TooMany(MAX_OTHERS)


def _are_taken(system, value, kept):
    """Whether the value is a set of actions that can be taken out, if some are to be kept."""
    if not are_action_names(system, value) or len(value) > MAX_TAKEN:
        return False
    return not any([name in kept for name in value])


def _check_taken(system, names, kept):
    """Raise an error if this is no set of actions that can be taken out."""
    if not _are_taken(system, names, kept):
        raise InvalidOperation("these are no names of actions that can be taken out")


def _rounds_without(system, names, target):
    """The search for a target in a system without these actions."""
    return rounds_of(system, without(system.names, names), target)


def _least_sets(system, target, names):
    """The least sets of some of these actions, not too many, without which a target is not reachable."""
    found = []
    for taken in sets_of(names, MAX_TAKEN):
        if not any([is_part(one, taken) for one in found]):
            if not _rounds_without(system, taken, target).least_rows:
                found.append(taken)
    return tuple(sorted(found))


def _certificate(system, target, names):
    """A certificate that a target is not reachable without these actions, but without all of them but one."""
    barred = _rounds_without(system, names, target)
    reached = {name: _rounds_without(system, without(names, (name,)), target) for name in names}
    if barred.least_rows or not all([rounds.least_rows for rounds in reached.values()]):
        raise InvalidOperation("this is no least set")
    return barred.certificate(), {name: rounds.certificate() for name, rounds in reached.items()}


def _is_certificate(system, target, names, value):
    """Whether the value is such a certificate."""
    if not isinstance(value, tuple) or len(value) != 2 or not isinstance(value[1], dict):
        return False
    if len(value[1]) != len(names) or not all([name in value[1] for name in names]):
        return False
    if not is_closed_form(system, without(system.names, names), target, value[0]):
        return False
    left = {name: without(system.names, without(names, (name,))) for name in names}
    return all([is_run_form(system, left[name], target, value[1][name]) for name in names])
