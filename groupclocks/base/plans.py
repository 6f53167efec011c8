"""Who takes part in the events of an action, worked out once for a system."""


class Plan:
    """The moves of an action of a system, and which members can make them in one event."""

    def __init__(self, moves, pools):
        """`pools` are the names of the pools of the system, in order."""
        self.shared = tuple([move for move in moves if move[0] in pools])
        indices = [at for at, move in enumerate(moves) if move[0] in pools]
        # Each move with the index of its member among the members of an event; None for a move of an agent.
        self._moves = [(*move, indices.index(at) if at in indices else None) for at, move in enumerate(moves)]
        # For each member, the place of its pool among the pools.
        self.places = [pools.index(move[0]) for move in self.shared]
        # Pairs of indices of members that are different, and of those that ascend besides.
        pairs = [(one, other) for other in range(len(self.shared)) for one in range(other)]
        self._apart = [(one, other) for one, other in pairs if self.shared[one][0] == self.shared[other][0]]
        self._ascending = [(one, other) for one, other in pairs if self.shared[one] == self.shared[other]]

    def are_members(self, members):
        """Whether these numbers can be the members of an event."""
        if len(members) != len(self.shared):
            return False
        for one, other in self._apart:
            if members[one] == members[other]:
                return False
        for one, other in self._ascending:
            if members[one] > members[other]:
                return False
        return True

    def parts_with(self, members):
        """The triples (participant, source, target) of an event with these members, one for each move."""
        return tuple([((owner, 0 if at is None else members[at]), source, goal)
                      for owner, source, goal, at in self._moves])
