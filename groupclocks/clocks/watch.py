"""Watched runs: who took part in an event, or in one behind it, and who was told of it."""

from groupclocks.base.checks import are_action_names, check_action_name, check_system, is_index
from groupclocks.base.systems import MAX_SHARED
from groupclocks.clocks.hunts import hunt_of, is_closed_pair
from groupclocks.clocks.tagged import (
    pattern_ahead_of_watched, tagged_places, tagged_steps, tagged_there, tags_at_end,
)
from groupclocks.cover.fields import are_there, greatest_number
from groupclocks.cover.patterns import MAX_TARGET
from groupclocks.errors import InvalidNumber, InvalidOperation, InvalidRun
from groupclocks.runs.runs import Run, run_or_none

TAGS = ("fresh", "behind", "told")


class Watch:
    """The actions one of which is watched, those that are barred behind it, and those that carry. It never changes."""

    def __init__(self, system, starts, *, barred=(), carriers=()):
        check_system(system)
        if not are_action_names(system, starts) or not starts:
            raise InvalidOperation("these are no actions to start with")
        if not are_action_names(system, barred):
            raise InvalidOperation("these are no actions to bar")
        if not are_action_names(system, carriers):
            raise InvalidOperation("these are no actions to carry")
        self._system = system
        self._starts = starts
        self._barred = barred
        self._carriers = carriers

    @property
    def system(self):
        """The system."""
        return self._system

    @property
    def starts(self):
        """The names of the actions that it starts with."""
        return self._starts

    @property
    def barred(self):
        """The names of the barred actions."""
        return self._barred

    @property
    def carriers(self):
        """The names of the carrying actions."""
        return self._carriers

    def tags(self, run, index):
        """The dict from the participants to their tags at the end of a run in which this event is the watched one."""
        self._check_watched(run, index)
        self._check_not_barred(run, index)
        return tags_at_end(run, index, self._carriers)

    def is_pattern(self, value):
        """Whether the value is a watched pattern."""
        return tagged_places(self._system).has_pattern(value)

    def is_match(self, run, index, pattern):
        """Whether a run in which this event is the watched one matches a watched pattern."""
        self._check_watched(run, index)
        self._check_pattern(pattern)
        self._check_not_barred(run, index)
        return are_there(tagged_there(run, tags_at_end(run, index, self._carriers)), pattern)

    def ahead(self, name, pattern):
        """The watched patterns ahead of a watched pattern by an action, ascending."""
        check_action_name(self._system, name)
        self._check_pattern(pattern)
        if name in self._barred:
            return ()
        fields = tagged_places(self._system).fields_for(greatest_number((pattern,)) + MAX_SHARED)
        steps = tagged_steps(self._system, fields, name, name in self._carriers)
        number = fields.number_of(pattern)
        found = [fields.ahead(step, number) for step in steps]
        least = fields.least([one for one in found if one is not None])
        return tuple(sorted([fields.pattern_of(one) for one in least]))

    def first(self, name, pattern):
        """The pattern ahead of a watched pattern by the watched event, if that is of this action, or None."""
        check_action_name(self._system, name)
        self._check_pattern(pattern)
        if name not in self._starts:
            return None
        return pattern_ahead_of_watched(self._system, name, pattern)

    def certificate(self, targets):
        """A certificate that no watched run matches one of the targets, or that one does."""
        self._check_targets(targets)
        hunt = hunt_of(self, targets)
        if not hunt.is_met():
            early, late = hunt.closed_pair()
            return "closed", early, late
        walk, index, _ = hunt.way()
        run = walk.run()
        return "run", run.numbers, run.events, index

    def is_certificate(self, targets, value):
        """Whether the value is a certificate for the targets."""
        self._check_targets(targets)
        if not isinstance(value, tuple) or len(value) not in (3, 4):
            return False
        if len(value) == 3:
            return value[0] == "closed" and is_closed_pair(self, targets, value[1], value[2])
        run = run_or_none(self._system, value[1], value[2]) if value[0] == "run" else None
        if run is None or not self._is_watched(run, value[3]) or self._is_barred(run, value[3]):
            return False
        there = tagged_there(run, tags_at_end(run, value[3], self._carriers))
        return any([are_there(there, target) for target in targets])

    def _is_watched(self, run, index):
        """Whether this is the index of an event that can be the watched one."""
        return is_index(index, len(run)) and run[index][0] in self._starts

    def _is_barred(self, run, index):
        """Whether a barred action comes behind the event with this index."""
        return any([name in self._barred for name, _ in run.events[index + 1:]])

    def _check_watched(self, run, index):
        """Raise an error if this is no run of the system, or no event that can be the watched one."""
        if not isinstance(run, Run) or run.system != self._system:
            raise InvalidRun("this is no run of the system")
        if not self._is_watched(run, index):
            raise InvalidNumber(index)

    def _check_not_barred(self, run, index):
        """Raise an error if a barred action comes behind the event with this index."""
        if self._is_barred(run, index):
            raise InvalidOperation("a barred action comes behind the watched event")

    def _check_pattern(self, pattern):
        """Raise an error if this is no watched pattern."""
        if not self.is_pattern(pattern):
            raise InvalidOperation("this is no watched pattern")

    def _check_targets(self, targets):
        """Raise an error if these are no watched targets."""
        places = tagged_places(self._system)
        if not isinstance(targets, tuple) or not places.have_patterns(targets):
            raise InvalidOperation("these are no watched patterns")
        if greatest_number(targets) > MAX_TARGET:
            raise InvalidOperation("a target asks for too many members")

    def __eq__(self, other):
        return (isinstance(other, Watch) and self._system == other._system and self._starts == other._starts
                and self._barred == other._barred and self._carriers == other._carriers)

    def __str__(self):
        return f"watch of {len(self._starts)} starts, {len(self._barred)} barred, {len(self._carriers)} carriers"
