"""Groups of actions, of which each two are ordered, and into how few of them actions can be put."""

from groupclocks.base.checks import are_action_names
from groupclocks.errors import InvalidOperation
from groupclocks.order.pairs import check_order

MAX_ASKED = 12


def is_group(order, value):
    """Whether the value is an ascending tuple of the names of the actions of a group."""
    check_order(order)
    if not are_action_names(order.system, value) or not value:
        return False
    return all([order.is_ordered(one, other) for one in value for other in value])


def loose_actions(order):
    """The names of the actions that are in no group, ascending."""
    check_order(order)
    return tuple([name for name in order.system.names if not order.is_ordered(name, name)])


def greatest_groups(order, names):
    """The groups of these actions that are part of no other group of them, ascending."""
    _check_names(order, names)
    tight = order.partings.bits_of([name for name in names if order.is_ordered(name, name)])
    return tuple(sorted([order.partings.names_of(bits) for bits in order.partings.greatest(tight)]))


def fewest_groups(order, names):
    """The least number of groups into which these actions can be put, or None."""
    _check_names(order, names)
    if _has_loose(order, names):
        return None
    return order.partings.least_groups(order.partings.bits_of(names))


def how_many(order, names):
    """The number of partitions of these actions into the least number of groups."""
    _check_names(order, names)
    if _has_loose(order, names):
        return 0
    return order.partings.ways(order.partings.bits_of(names))


def each_partition(order, names):
    """The partitions of these actions into the least number of groups, one by one, ascending."""
    _check_names(order, names)
    if not _has_loose(order, names):
        partings = order.partings
        bits = partings.bits_of(names)
        yield from _each_parting(partings, bits)


def parted_run(order, names):
    """A run whose last two events are of these actions and concurrent, with as few members as possible."""
    _check_names(order, names)
    pairs = [(one, other) for one in names for other in names if one <= other and not order.is_ordered(one, other)]
    if not pairs:
        raise InvalidOperation("the actions are a group")
    least = min([order.least_members(one, other) for one, other in pairs])
    one, other = [pair for pair in pairs if order.least_members(*pair) == least][0]
    return order.run(one, other)


def _check_names(order, names):
    """Raise an error if this is no order, or if these are not some ascending names of its actions, few enough."""
    check_order(order)
    if not are_action_names(order.system, names) or not 1 <= len(names) <= MAX_ASKED:
        raise InvalidOperation("these are no names of actions, ascending and few enough")


def _has_loose(order, names):
    """Whether one of these actions is in no group."""
    return any([not order.is_ordered(name, name) for name in names])


def _each_parting(partings, bits):
    """The partitions of a set of actions, as bits, into the least number of groups, one by one, ascending."""
    if bits == 0:
        yield ()
        return
    group = partings.first_group(bits)
    while group is not None:
        rest, names = bits ^ group, partings.names_of(group)
        for others in _each_parting(partings, rest):
            yield (names, *others)
        group = partings.next_group(bits, group)
