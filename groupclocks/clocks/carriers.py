"""Which actions must carry the number of a group, so that it is right in the stamps of some events."""

from groupclocks.base.checks import are_action_names
from groupclocks.base.sets import is_part, sets_of, without
from groupclocks.base.systems import MAX_SHARED
from groupclocks.clocks.clocks import Clocks
from groupclocks.clocks.hunts import hunt_of, is_closed_pair
from groupclocks.clocks.tagged import BEHIND, FRESH, tagged_needs, tagged_places
from groupclocks.clocks.watch import Watch
from groupclocks.cover.reach import run_in_form
from groupclocks.errors import InvalidOperation, TooMany
from groupclocks.order.groups import is_group
from groupclocks.order.pairs import check_order

MAX_QUESTION = 6


class Carriers:
    """Which carriers are enough for a group and some asked actions. It never changes."""

    def __init__(self, order, group, asked):
        check_order(order)
        if not is_group(order, group):
            raise InvalidOperation("this is no group")
        if not are_action_names(order.system, asked) or any([name in group for name in asked]):
            raise InvalidOperation("these are no other actions to ask for")
        self._order = order
        self._system = order.system
        self._group = group
        self._asked = asked
        self._question = without(order.system.names, group)
        if len(self._question) > MAX_QUESTION:
            raise TooMany(MAX_QUESTION)
        # Whose number is wrong takes part in no event that was told of the latest one of the group, but in one behind.
        self._lasts = tagged_needs(order.system, [*group, *asked], (BEHIND, FRESH), BEHIND)
        self._targets = _least_of(order.system, list(self._lasts))
        self._enough = {}

    @property
    def system(self):
        """The system."""
        return self._system

    @property
    def group(self):
        """The names of the actions of the group."""
        return self._group

    @property
    def asked(self):
        """The names of the asked actions."""
        return self._asked

    @property
    def question(self):
        """The names of the actions that are not of the group, ascending."""
        return self._question

    @property
    def targets(self):
        """The least ones of the targets of the group and of the asked actions, ascending."""
        return self._targets

    def is_enough(self, names):
        """Whether these carriers are enough."""
        self._check_names(names)
        if names not in self._enough:
            self._enough[names] = not self._hunt(names).is_met()
        return self._enough[names]

    def certificate(self, names):
        """A certificate that these carriers are enough, or that they are not."""
        self._check_names(names)
        hunt = self._hunt(names)
        if not hunt.is_met():
            early, late = hunt.closed_pair()
            return "closed", early, late
        walk, _, target = hunt.way()
        last, places = self._lasts[target]
        walk.go(last, places, places)
        run = walk.run()
        return "run", run.numbers, run.events

    def is_certificate(self, names, value):
        """Whether the value is a certificate for these carriers."""
        self._check_names(names)
        if not isinstance(value, tuple) or len(value) != 3:
            return False
        if value[0] == "closed":
            return is_closed_pair(self._watch(names), self._targets, value[1], value[2])
        run = run_in_form(self._system, value)
        if run is None or len(run) == 0 or run[len(run) - 1][0] not in [*self._group, *self._asked]:
            return False
        clocks = Clocks(self._order, (self._group,), carriers=(names,))
        return clocks.stamps(run)[-1] != clocks.right(run)[-1]

    def least_sets(self):
        """The least sets of carriers that are enough, ascending."""
        enough = self._sets(True)
        return tuple(sorted([one for one in enough if sum([is_part(other, one) for other in enough]) == 1]))

    def greatest_sets(self):
        """The greatest sets of carriers that are not enough, ascending."""
        others = self._sets(False)
        return tuple(sorted([one for one in others if sum([is_part(one, other) for other in others]) == 1]))

    def _sets(self, expected):
        """All sets of actions in question that are enough, or all that are not."""
        told = [(names, self.is_enough(names)) for names in sets_of(self._question, MAX_QUESTION)]
        return [names for names, is_one in told if is_one == expected]

    def _watch(self, names):
        """The watch for these carriers."""
        return Watch(self._system, self._group, barred=self._group, carriers=names)

    def _hunt(self, names):
        """The search for a watched run that shows that these carriers are not enough."""
        return hunt_of(self._watch(names), self._targets)

    def _check_names(self, names):
        """Raise an error if this is no ascending tuple of names of actions in question."""
        if not are_action_names(self._system, names) or any([name in self._group for name in names]):
            raise InvalidOperation("these are no actions in question")

    def __eq__(self, other):
        return (isinstance(other, Carriers) and self._system == other._system and self._group == other._group
                and self._asked == other._asked)

    def __str__(self):
        return f"carriers of {len(self._group)} actions for {len(self._asked)} asked"


def _least_of(system, patterns):
    """The least ones of some watched patterns that are the needs of actions, ascending."""
    fields = tagged_places(system).fields_for(MAX_SHARED)
    least = fields.least([fields.number_of(pattern) for pattern in patterns])
    return tuple(sorted([fields.pattern_of(number) for number in least]))
