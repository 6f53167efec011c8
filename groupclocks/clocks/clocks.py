"""Clocks: a number for each of some groups, which participants hand on to one another in events."""

from groupclocks.base.checks import are_action_names, check_action_name, is_index
from groupclocks.errors import InvalidClocks, InvalidNumber, InvalidOperation, InvalidRun
from groupclocks.order.groups import is_group
from groupclocks.order.pairs import check_order
from groupclocks.runs.runs import Run


class Clocks:
    """Groups without a common action, and for each of them the actions that carry its number. They never change."""

    def __init__(self, order, groups, *, carriers=None):
        check_order(order)
        if not _are_apart(order, groups):
            raise InvalidClocks("these are no groups without a common action")
        if carriers is not None and not _are_carriers(order.system, groups, carriers):
            raise InvalidClocks("these are no carriers for the groups")
        self._system = order.system
        self._groups = groups
        self._others = tuple([tuple([name for name in order.system.names if name not in group]) for group in groups])
        self._carriers = self._others if carriers is None else carriers

    @property
    def system(self):
        """The system."""
        return self._system

    @property
    def groups(self):
        """The groups, in the order in which they were passed."""
        return self._groups

    @property
    def carriers(self):
        """For each group, the names of the actions that carry its number."""
        return self._carriers

    def group_of(self, name):
        """The index of the group of an action, or None."""
        check_action_name(self._system, name)
        return self._group_of(name)

    def stamps(self, run):
        """The stamps of the events of a run."""
        self._check_run(run)
        stamps, _ = self._stamped(run, self._carriers)
        return stamps

    def kept(self, run):
        """The dict from the participants to their numbers at the end of a run."""
        self._check_run(run)
        _, kept = self._stamped(run, self._carriers)
        return kept

    def right(self, run):
        """The stamps of the events of a run with the right numbers."""
        self._check_run(run)
        # If all actions carry a number, it is right in each stamp.
        stamps, _ = self._stamped(run, self._others)
        return stamps

    def first_wrong(self, run):
        """The first pair of the indices of an event and a group whose number in the stamp is not right, or None."""
        for index, (stamp, right) in enumerate(list(zip(self.stamps(run), self.right(run)))):
            for at, number in enumerate(stamp):
                if number != right[at]:
                    return index, at
        return None

    def is_told(self, run, one, other):
        """Whether the stamps of two events tell that the first one is before the second one, or is it."""
        self._check_run(run)
        for index in (one, other):
            if not is_index(index, len(run)):
                raise InvalidNumber(index)
        group = self._group_of(run[one][0])
        if group is None:
            raise InvalidOperation("the first event belongs to no group")
        stamps, _ = self._stamped(run, self._carriers)
        return stamps[one][group] <= stamps[other][group]

    def _check_run(self, run):
        """Raise an error if this is no run of the system."""
        if not isinstance(run, Run) or run.system != self._system:
            raise InvalidRun("this is no run of the system")

    def _group_of(self, name):
        """The index of the group of an action, or None."""
        found = [at for at, group in enumerate(self._groups) if name in group]
        return found[0] if found else None

    def _stamped(self, run, carriers):
        """The stamps of the events, and the dict from the participants to their numbers, with these carriers."""
        kept = {who: (0,) * len(self._groups) for who in run.finals}
        stamps = []
        for (name, _), parts in zip(run.events, run.parts):
            people = [who for who, _, _ in parts]
            stamp = []
            behind = []
            for at, group in enumerate(self._groups):
                stamp.append(max([kept[who][at] for who in people]) + (1 if name in group else 0))
                behind.append(name in group or name in carriers[at])
            for who in people:
                numbers = list(zip(behind, stamp, kept[who]))
                kept[who] = tuple([new if does_change else old for does_change, new, old in numbers])
            stamps.append(tuple(stamp))
        return tuple(stamps), kept

    def __len__(self):
        return len(self._groups)

    def __eq__(self, other):
        return (isinstance(other, Clocks) and self._system == other._system and self._groups == other._groups
                and self._carriers == other._carriers)

    def __str__(self):
        return f"clocks for {len(self._groups)} groups of {sum([len(group) for group in self._groups])} actions"


def _are_apart(order, value):
    """Whether the value is a tuple of groups without a common action."""
    if not isinstance(value, tuple) or not all([is_group(order, group) for group in value]):
        return False
    names = [name for group in value for name in group]
    return len(set(names)) == len(names)


def _are_carriers(system, groups, value):
    """Whether the value has for each group an ascending tuple of names of actions that are not of this group."""
    if not isinstance(value, tuple) or len(value) != len(groups):
        return False
    if not all([are_action_names(system, names) for names in value]):
        return False
    return not any([name in group for names, group in zip(value, groups) for name in names])
