"""Which actions are always, and which are never, before an action."""

from groupclocks.base.checks import are_action_names, check_action_name, check_system
from groupclocks.base.sets import without
from groupclocks.clocks.hunts import hunt_of, is_closed_pair
from groupclocks.clocks.tagged import FRESH, TOLD, tagged_needs
from groupclocks.clocks.watch import Watch
from groupclocks.cover.patterns import needs_of
from groupclocks.cover.reach import is_closed_form, rounds_of, run_in_form
from groupclocks.errors import InvalidOperation
from groupclocks.order.pairs import event_at_end


def is_always(system, names, other):
    """Whether in each run each event of an action has another event of a given action before it."""
    _check(system, names, other)
    return not _rounds_without(system, names, other).least_rows


def is_never(system, names, other):
    """Whether in no run an event of an action has an event of a given action before it."""
    _check(system, names, other)
    return _is_idle(system, other) or not hunt_of(_watch(system, names), _targets(system, other)).is_met()


def always_certificate(system, names, other):
    """A certificate that the given actions are always before an action, or that they are not."""
    _check(system, names, other)
    rounds = _rounds_without(system, names, other)
    if not rounds.least_rows:
        return "closed", rounds.closed_patterns()
    run = rounds.run_of_fewest()
    run = run + event_at_end(run, other, [])
    return "run", run.numbers, run.events


def never_certificate(system, names, other):
    """A certificate that the given actions are never before an action, or that they are not."""
    _check(system, names, other)
    hunt = hunt_of(_watch(system, names), _targets(system, other))
    if not hunt.is_met():
        early, late = hunt.closed_pair()
        return "closed", early, late
    walk, _, target = hunt.way()
    last, places = tagged_needs(system, (other,), (FRESH, TOLD), TOLD)[target]
    walk.go(last, places, places)
    run = walk.run()
    return "run", run.numbers, run.events


def is_always_certificate(system, names, other, value):
    """Whether the value is a certificate for "always"."""
    _check(system, names, other)
    if is_closed_form(system, without(system.names, names), needs_of(system, other), value):
        return True
    before = _before_last(system, other, value)
    return before is not None and not any([name in names for name in before])


def is_never_certificate(system, names, other, value):
    """Whether the value is a certificate for "never"."""
    _check(system, names, other)
    if isinstance(value, tuple) and len(value) == 3 and value[0] == "closed":
        return is_closed_pair(_watch(system, names), _targets(system, other), value[1], value[2])
    before = _before_last(system, other, value)
    return before is not None and any([name in names for name in before])


class Past:
    """For each two actions of a system whether the one is always, or never, before the other one. It never changes."""

    def __init__(self, system):
        check_system(system)
        self._system = system
        pairs = [(one, other) for one in system.names for other in system.names]
        self._always = tuple([(one, other) for one, other in pairs if is_always(system, (one,), other)])
        self._never = tuple([(one, other) for one, other in pairs if is_never(system, (one,), other)])
        self._idle = tuple([name for name in system.names if _is_idle(system, name)])

    @property
    def system(self):
        """The system."""
        return self._system

    @property
    def always(self):
        """The pairs of actions of which the first one is always before the second one, ascending."""
        return self._always

    @property
    def never(self):
        """The pairs of actions of which the first one is never before the second one, ascending."""
        return self._never

    @property
    def idle(self):
        """The actions that are never possible, ascending."""
        return self._idle

    def says(self, one, other):
        """A word for what the first action is to the second one."""
        check_action_name(self._system, one)
        check_action_name(self._system, other)
        if other in self._idle:
            return "idle"
        if (one, other) in self._always:
            return "always"
        return "never" if (one, other) in self._never else "some"

    def __eq__(self, other):
        return isinstance(other, Past) and self._system == other._system

    def __str__(self):
        return f"past of {len(self._system)} actions, {len(self._always)} always, {len(self._never)} never"


def _check(system, names, other):
    """Raise an error if this is no system, if these are no names of some of its actions, or if this is none."""
    check_system(system)
    # A system has no more actions than names may be given.
    if not are_action_names(system, names) or not names:
        raise InvalidOperation("these are no names of actions")
    check_action_name(system, other)


def _is_idle(system, name):
    """Whether an action is never possible."""
    return not rounds_of(system, system.names, needs_of(system, name)).least_rows


def _rounds_without(system, names, other):
    """The search for the needs of an action without the given actions."""
    return rounds_of(system, without(system.names, names), needs_of(system, other))


def _watch(system, names):
    """The watch whose tags tell who took part in an event of a given action, or in one behind it."""
    return Watch(system, names, carriers=system.names)


def _targets(system, other):
    """The needs of an action where one of the participants, or more of them, was told."""
    return tuple(sorted(list(tagged_needs(system, (other,), (FRESH, TOLD), TOLD))))


def _before_last(system, other, value):
    """The names of the actions of the events before the last one, if the value has a run that ends with this action."""
    run = run_in_form(system, value)
    if run is None or len(run) == 0 or run[len(run) - 1][0] != other:
        return None
    return [run[index][0] for index in run.past(len(run) - 1)]
