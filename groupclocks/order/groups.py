"""Groups of actions, of which each two are ordered, and into how few of them actions can be put."""

from groupclocks.base.checks import are_action_names
from groupclocks.errors import InvalidOperation
from groupclocks.order.pairs import check_order

MAX_ASKED = 12


def is_group(order, value):
    """Whether the value is an ascending tuple of the names of the actions of a group."""
    check_order(order)
    if not are_action_names(order.system, value) or not value:
        return False
    return all([order.is_ordered(one, other) for one in value for other in value])


def loose_actions(order):
    """The names of the actions that are in no group, ascending."""
    check_order(order)
    return tuple([name for name in order.system.names if not order.is_ordered(name, name)])


def greatest_groups(order, names):
    """The groups of these actions that are part of no other group of them, ascending."""
    _check_names(order, names)
    are_groups = _which_are_groups(order, names)
    units = [1 << at for at in range(len(names))]
    found = [bits for bits, is_one in enumerate(are_groups) if bits and is_one
             and not any([are_groups[bits | unit] for unit in units if not bits & unit])]
    return tuple(sorted([_chosen(names, bits) for bits in found]))


def fewest_groups(order, names):
    """The least number of groups into which these actions can be put, or None."""
    _check_names(order, names)
    fewest, _ = _partings(_which_are_groups(order, names))
    return fewest[-1]


def how_many(order, names):
    """The number of partitions of these actions into the least number of groups."""
    _check_names(order, names)
    _, many = _partings(_which_are_groups(order, names))
    return many[-1]


def each_partition(order, names):
    """The partitions of these actions into the least number of groups, one by one, ascending."""
    _check_names(order, names)
    are_groups = _which_are_groups(order, names)
    fewest, _ = _partings(are_groups)
    everything = len(are_groups) - 1
    if fewest[everything] is not None:
        yield from _each_parting(names, are_groups, fewest, everything)


def parted_run(order, names):
    """A run whose last two events are of these actions and concurrent, with as few members as possible."""
    _check_names(order, names)
    pairs = [(one, other) for one in names for other in names if one <= other and not order.is_ordered(one, other)]
    if not pairs:
        raise InvalidOperation("the actions are a group")
    least = min([order.least_members(one, other) for one, other in pairs])
    one, other = [pair for pair in pairs if order.least_members(*pair) == least][0]
    return order.run(one, other)


def _check_names(order, names):
    """Raise an error if this is no order, or if these are not some ascending names of its actions, few enough."""
    check_order(order)
    if not are_action_names(order.system, names) or not 1 <= len(names) <= MAX_ASKED:
        raise InvalidOperation("these are no names of actions, ascending and few enough")


def _which_are_groups(order, names):
    """For each set of the names, written as the bits of their indices, whether it is a group or empty."""
    friends = [sum([1 << at for at, other in enumerate(names) if order.is_ordered(one, other)]) for one in names]
    found = [True]
    for bits in range(1, 1 << len(names)):
        first = (bits & -bits).bit_length() - 1
        found.append(found[bits & (bits - 1)] and bits & ~friends[first] == 0)
    return found


def _partings(are_groups):
    """For each set of names, as bits: into how few groups it can be put, or None, and in how many ways.

    The group of the first name is chosen first, so that each partition is counted once.
    """
    fewest, many = [0], [1]
    for bits in range(1, len(are_groups)):
        options = [rest for rest in _rests(bits) if are_groups[bits ^ rest] and fewest[rest] is not None]
        least = min([fewest[rest] for rest in options], default=None)
        fewest.append(None if least is None else least + 1)
        many.append(sum([many[rest] for rest in options if fewest[rest] == least]))
    return fewest, many


def _rests(bits):
    """What can be left of a set of names, as bits, without some that have the first one among them."""
    others = bits & (bits - 1)
    found, rest = [0], others
    while rest:
        found.append(rest)
        rest = (rest - 1) & others
    return found


def _each_parting(names, are_groups, fewest, bits):
    """The partitions of a set of the names, as bits, into the least number of groups, one by one, ascending."""
    if bits == 0:
        yield ()
        return
    rests = [rest for rest in _rests(bits) if are_groups[bits ^ rest] and fewest[rest] == fewest[bits] - 1]
    for group, rest in sorted([(_chosen(names, bits ^ rest), rest) for rest in rests]):
        for others in _each_parting(names, are_groups, fewest, rest):
            yield (group, *others)


def _chosen(names, bits):
    """The names of a set that is written as bits."""
    return tuple([name for at, name in enumerate(names) if bits >> at & 1])
