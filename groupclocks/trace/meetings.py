"""Whether participants can or must be in some states together, in the orders that the events of a run can have."""

from groupclocks.base.checks import is_index


def stays_of(run, who):
    """The stays of a participant, in order: triples of a state and of the events that begin and end it, or None."""
    found, begin, state = [], None, run.system.states(who[0])[0]
    for index, parts in enumerate(run.parts):
        for mover, source, goal in parts:
            if mover == who and source != goal:
                found.append((source, begin, index))
                begin, state = index, goal
    return (*found, (state, begin, None))


def is_order(run, value):
    """Whether the value is one of the orders of a run: a tuple of all indices, each behind its past."""
    if not isinstance(value, tuple) or len(value) != len(run):
        return False
    pasts, done = run.past_bits(), 0
    for index in value:
        if not is_index(index, len(run)) or done >> index & 1 or pasts[index] & ~done:
            return False
        done = done | 1 << index
    return True


def moments_of(run, order, wishes):
    """For each moment of an order, whether all wishes are fulfilled."""
    states = {who: run.system.states(who[0])[0] for who, _ in wishes}
    found = [all([states[who] == state for who, state in wishes])]
    for index in order:
        for who, _, goal in run.parts[index]:
            if who in states:
                states[who] = goal
        found.append(all([states[who] == state for who, state in wishes]))
    return found


class Meetings:
    """The stays that fulfil some wishes, and how they can lie beside one another."""

    def __init__(self, run, wishes):
        self._pasts = run.past_bits()
        # For each wish the events that begin and end the stays in the wished state.
        self._rows = [[stay[1:] for stay in stays_of(run, who) if stay[0] == state] for who, state in wishes]

    def common(self):
        """Stays of all that can be together, or None."""
        return self._first_without(self._is_over)

    def must_meet(self):
        """Whether in each order some stays of all are together."""
        # Where one can begin when another one is over, the other one is not among those that must be together.
        return self._first_without(self._can_be_over) is not None

    def meeting(self):
        """An order and a number of its events behind which all are together, or None."""
        stays = self.common()
        if stays is None:
            return None
        done = 0
        for begin, _ in stays:
            done = done | self._up_to(begin)
        first = self._indices(done)
        return (*first, *self._indices(self._everything() & ~done)), len(first)

    def parting(self):
        """An order in which all are never together, or None.

        If one of the next stays can be over when another one begins, it is ended next. Until then somebody is not in
        the wished state: the other participant, or, if that one has begun already with the end of an earlier stay of a
        third one, this third one, who begins still later; and so on.
        """
        done, order, heads = 0, [], [0] * len(self._rows)
        while self._are_there(heads):
            stays = self._stays_at(heads)
            ends = [one[1] for one in stays for other in stays if self._can_be_over(one, other)]
            if not ends:
                return None
            fresh = self._up_to(ends[0]) & ~done
            order.extend(self._indices(fresh))
            done = done | fresh
            heads = [self._next_head(row, head, done) for row, head in zip(self._rows, heads)]
        return (*order, *self._indices(self._everything() & ~done))

    def _first_without(self, is_out):
        """The first stays of all of which none is out beside another one, or None.

        A stay that is out beside another one is out beside each later one of that participant.
        """
        heads = [0] * len(self._rows)
        while self._are_there(heads):
            stays = self._stays_at(heads)
            passed = [at for at, one in enumerate(stays) for other in stays if is_out(one, other)]
            if not passed:
                return stays
            heads[passed[0]] = heads[passed[0]] + 1
        return None

    def _is_over(self, one, other):
        """Whether in each order the one stay is over when the other one begins."""
        return one[1] is not None and self._up_to(other[0]) >> one[1] & 1 == 1

    def _can_be_over(self, one, other):
        """Whether in some order the one stay is over when the other one begins."""
        return one[1] is not None and other[0] is not None and self._pasts[one[1]] >> other[0] & 1 == 0

    def _are_there(self, heads):
        """Whether there is a stay in each row at these places."""
        return all([head < len(row) for row, head in zip(self._rows, heads)])

    def _stays_at(self, heads):
        """The stays at these places of the rows."""
        return [row[head] for row, head in zip(self._rows, heads)]

    def _next_head(self, row, head, done):
        """The place of the first stay of a row, from one on, that is not over behind some events."""
        at = head
        while at < len(row) and row[at][1] is not None and done >> row[at][1] & 1:
            at = at + 1
        return at

    def _up_to(self, index):
        """The bits of an event and of those before it; none for None."""
        return 0 if index is None else self._pasts[index] | 1 << index

    def _everything(self):
        """The bits of all events."""
        return (1 << len(self._pasts)) - 1

    def _indices(self, bits):
        """The indices of some events, ascending."""
        found = []
        while bits:
            found.append((bits & -bits).bit_length() - 1)
            bits = bits & (bits - 1)
        return found
