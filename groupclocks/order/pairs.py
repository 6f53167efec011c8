"""Which actions are ordered: no event of the one is ever concurrent with one of the other."""

from groupclocks.base.checks import check_action_name, check_system
from groupclocks.cover.patterns import needs_of_both, shared_agents
from groupclocks.cover.reach import Reach, is_certificate
from groupclocks.errors import InvalidOperation
from groupclocks.order.partings import Partings
from groupclocks.runs.runs import parts_of


class Order:
    """Which actions of a system are ordered. It never changes."""

    def __init__(self, system):
        check_system(system)
        self._system = system
        names = system.names
        pairs = [(one, other) for one in names for other in names if one <= other]
        # Two actions with a common agent are ordered, and need not be looked into.
        self._reaches = {pair: Reach(system, needs_of_both(system, *pair)) for pair in pairs
                         if not shared_agents(system, *pair)}
        self._concurrent = tuple([pair for pair in pairs
                                  if pair in self._reaches and self._reaches[pair].is_reachable])
        self._ordered = tuple([pair for pair in pairs if pair not in self._concurrent])
        self._known = {pair: pair in self._ordered for pair in pairs}
        self.partings = Partings(names, [self._foe_bits(name) for name in names])

    @property
    def system(self):
        """The system."""
        return self._system

    @property
    def ordered(self):
        """The pairs of ordered actions, ascending, each with the lesser name first."""
        return self._ordered

    @property
    def concurrent(self):
        """The other pairs of actions, ascending, each with the lesser name first."""
        return self._concurrent

    def is_ordered(self, one, other):
        """Whether two actions are ordered."""
        return self._known[self._pair(one, other)]

    def least_members(self, one, other):
        """The least number of members in all with which two actions can be concurrent, or None."""
        pair = self._pair(one, other)
        return self._reaches[pair].fewest if pair in self._reaches else None

    def certificate(self, one, other):
        """A certificate that two actions are ordered, or that they are not."""
        pair = self._pair(one, other)
        if pair in self._reaches:
            return self._reaches[pair].certificate()
        return "shared", shared_agents(self._system, one, other)[0]

    def run(self, one, other):
        """A run whose last two events are of these actions and concurrent, with as few members as possible."""
        pair = self._pair(one, other)
        if pair in self._ordered:
            raise InvalidOperation("the actions are ordered")
        run = self._reaches[pair].run()
        first = event_at_end(run, one, [])
        second = event_at_end(run, other, [who for who, _, _ in parts_of(self._system, first)])
        return run + first + second

    def _foe_bits(self, name):
        """The bits of the indices of the actions that one is not ordered with."""
        return sum([1 << at for at, other in enumerate(self._system.names) if not self.is_ordered(name, other)])

    def _pair(self, one, other):
        """The pair of two names of actions, with the lesser one first."""
        check_action_name(self._system, one)
        check_action_name(self._system, other)
        return (one, other) if one <= other else (other, one)

    def __contains__(self, value):
        if not isinstance(value, tuple) or len(value) != 2:
            return False
        one, other = value
        return (one, other) in self._ordered or (other, one) in self._ordered

    def __len__(self):
        return len(self._ordered)

    def __eq__(self, other):
        return isinstance(other, Order) and self._system == other._system

    def __str__(self):
        return f"order of {len(self._system)} actions, {len(self._ordered)} ordered pairs"


def check_order(order):
    """Raise an error if this is no order."""
    if not isinstance(order, Order):
        raise InvalidOperation("this is no order")


def is_ordered(system, one, other):
    """Whether two actions of a system are ordered."""
    both = needs_of_both(system, one, other)
    return both is None or not Reach(system, both).is_reachable


def is_order_certificate(system, one, other, value):
    """Whether the value is a certificate for two actions of a system."""
    both = needs_of_both(system, one, other)
    if both is not None:
        return is_certificate(system, both, value)
    if not isinstance(value, tuple) or len(value) != 2 or value[0] != "shared":
        return False
    return value[1] in shared_agents(system, one, other)


def event_at_end(run, name, others):
    """An event of an action that is possible at the end of the run, and in which these participants have no part."""
    system, finals = run.system, run.finals
    members, taken = [], list(others)
    for owner, source, _ in system[name].moves:
        if owner in system.pools:
            free = [who for who, state in finals.items() if who[0] == owner and state == source and who not in taken]
            taken.append(free[0])
            members.append(free[0][1])
    return name, tuple(members)
