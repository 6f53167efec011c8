"""Into how few groups actions can be put: sets of them are the bits of their indices."""


class Partings:
    """Into how few groups each set of actions can be put, in how many ways, and into which.

    The foes of an action are those that it is not ordered with; a group has none of them beside it. What was worked out
    for a set is kept, as different questions about an order lead to the same sets.
    """

    def __init__(self, names, foes):
        """The names of the actions, ascending, and for each of them the bits of its foes, perhaps its own."""
        self._names = names
        self._places = {name: at for at, name in enumerate(names)}
        self._foes = foes
        self._least = {0: 0}
        self._colored = {}

    def bits_of(self, names):
        """The set of the actions with these different names."""
        return sum([1 << self._places[name] for name in names])

    def names_of(self, bits):
        """The names of a set of actions, ascending."""
        return tuple([name for at, name in enumerate(self._names) if bits >> at & 1])

    def least_groups(self, bits):
        """The least number of groups into which these actions can be put, each of which is in some group."""
        if bits not in self._least:
            part = self._linked(bits)
            if part == bits:
                rests = [bits ^ group for group in self._greatest_of_first(bits)]
                self._least[bits] = 1 + min([self.least_groups(rest) for rest in rests])
            else:
                self._least[bits] = max(self.least_groups(part), self.least_groups(bits ^ part))
        return self._least[bits]

    def ways(self, bits):
        """The number of ways in which these actions can be put into the least number of groups."""
        fewest = self.least_groups(bits)
        found = self._colorings(bits, fewest)
        # Each way gives a coloring for each order of its groups.
        for number in range(1, fewest + 1):
            found = found // number
        return found

    def greatest(self, bits):
        """The groups of these actions, each of which is in some group, that are part of no other group of them."""
        return self._greatest(0, bits, 0) if bits else []

    def first_group(self, bits):
        """The first group, ascending, that the first of these actions is in if they are put into the fewest groups."""
        group = bits & -bits
        return group if self._does_help(bits, group) else self.next_group(bits, group)

    def next_group(self, bits, group):
        """The next such group behind this one, or None."""
        first = bits & -bits
        found = self._longer_group(bits, group, 0)
        while found is None and group != first:
            last = group.bit_length() - 1
            group = group ^ 1 << last
            found = self._longer_group(bits, group, last + 1)
        return found

    def _longer_group(self, bits, group, start):
        """The first such group that begins with this one and goes on with an action from `start` on, or None."""
        for at in range(max(start, group.bit_length()), bits.bit_length()):
            passed = bits & ((1 << at) - 1) & ~group
            # Those that are passed over stay for the other groups.
            if self.least_groups(passed) >= self.least_groups(bits):
                return None
            if bits >> at & 1 and not self._foes[at] & group:
                longer = group | 1 << at
                found = longer if self._does_help(bits, longer) else self._longer_group(bits, longer, 0)
                if found is not None:
                    return found
        return None

    def _does_help(self, bits, group):
        """Whether these actions can be put into fewer groups without this one."""
        return self.least_groups(bits ^ group) < self.least_groups(bits)

    def _foes_of(self, unit, bits):
        """Those of the actions that are foes of the one that has this bit."""
        return self._foes[unit.bit_length() - 1] & bits

    def _linked(self, bits):
        """The first of these actions, with its foes, their foes, and so on, as far as they are among these."""
        found, waiting = 0, bits & -bits
        while waiting:
            unit = waiting & -waiting
            found = found | unit
            waiting = (waiting | self._foes_of(unit, bits)) & ~found
        return found

    def _greatest_of_first(self, bits):
        """The groups of these actions with the first one in them that are part of no other group of them."""
        first = bits & -bits
        return self._greatest(first, bits & ~first & ~self._foes_of(first, bits), 0)

    def _greatest(self, group, others, passed):
        """The greatest groups of this one and some others, if one that was passed can be put into none of them."""
        if not others:
            return [] if passed else [group]
        found, pivot = [], others & -others
        # Each greatest group has this one in it, or one of its foes.
        for unit in _units(pivot | self._foes_of(pivot, others)):
            foes = unit | self._foes_of(unit, others | passed)
            found = found + self._greatest(group | unit, others & ~foes, passed & ~foes)
            others, passed = others ^ unit, passed | unit
        return found

    def _groups_of_first(self, bits):
        """All groups of these actions with the first one in them."""
        first = bits & -bits
        found = [first]
        for unit in _units(bits ^ first):
            found = found + [group | unit for group in found if not self._foes_of(unit, group)]
        return found

    def _colorings(self, bits, many):
        """In how many ways each of these actions can have one of so many colors, and none that of a foe."""
        if (bits, many) not in self._colored:
            self._colored[bits, many] = self._new_colorings(bits, many)
        return self._colored[bits, many]

    def _new_colorings(self, bits, many):
        """The same, not looked up."""
        if not bits or self.least_groups(bits) > many:
            return 0 if bits else 1
        part = self._linked(bits)
        if part != bits:
            return self._colorings(part, many) * self._colorings(bits ^ part, many)
        for unit in _units(bits):
            foes = _units(self._foes_of(unit, bits))
            # Foes of one another have different colors, whatever the others have.
            if all([self._foes_of(one, other) for one in foes for other in foes if one != other]):
                return self._colorings(bits ^ unit, many) * (many - len(foes))
        if many == 2:
            return 2
        return many * sum([self._colorings(bits ^ group, many - 1) for group in self._groups_of_first(bits)])


def _units(bits):
    """The single bits of a set, ascending."""
    found = []
    while bits:
        found.append(bits & -bits)
        bits = bits & (bits - 1)
    return found
