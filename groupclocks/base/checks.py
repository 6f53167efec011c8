"""Checks of arguments that many modules have in common."""

from groupclocks.base.systems import System
from groupclocks.errors import InvalidSystem, UnknownName


def is_ascending(values):
    """Whether each of these, all of one kind, is less than the next one."""
    return all([one < other for one, other in zip(values, values[1:])])


def is_action_name(system, value):
    """Whether the value is the name of an action of the system."""
    return isinstance(value, str) and value in system


def are_action_names(system, value):
    """Whether the value is an ascending tuple of names of actions of the system, perhaps of none."""
    return isinstance(value, tuple) and all([is_action_name(system, name) for name in value]) and is_ascending(value)


def is_index(value, many):
    """Whether the value is the index of one of so many."""
    # No index is so long that its length need be asked for.
    return isinstance(value, int) and not isinstance(value, bool) and 0 <= value < many


def check_system(system):
    """Raise an error if this is no system."""
    if not isinstance(system, System):
        raise InvalidSystem("this is no system")


def check_action_name(system, name):
    """Raise an error if this is not the name of an action of the system."""
    if not is_action_name(system, name):
        raise UnknownName(name)
