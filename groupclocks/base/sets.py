"""Sets of names, as ascending tuples."""


def sets_of(names, most):
    """All sets of at most so many of these ascending names, the smaller ones first."""
    found = [()]
    for name in names:
        found = found + [(*one, name) for one in found if len(one) < most]
    return sorted(found, key=len)


def is_part(one, other):
    """Whether all names of a set are in another one."""
    return all([name in other for name in one])


def without(names, taken):
    """The names but those that are taken out, as a tuple."""
    return tuple([name for name in names if name not in taken])
