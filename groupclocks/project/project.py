"""Claims about a system, and a project: a system in which some claims stay true."""

from groupclocks.base.checks import are_action_names, check_system, is_action_name
from groupclocks.base.trials import Trial
from groupclocks.base.words import is_integer
from groupclocks.clocks.carriers import MAX_QUESTION, Carriers
from groupclocks.cover.patterns import is_target
from groupclocks.cover.reach import Reach
from groupclocks.errors import InvalidNumber, InvalidOperation, NothingToUndo, Refused, TooMany
from groupclocks.order.groups import is_group
from groupclocks.order.pairs import Order, is_ordered
from groupclocks.past.always import is_always, is_never

MAX_CLAIMS = 20


def fits_in(system, value):
    """Whether the value is a claim whose parts are as the stages ask, with names of the system."""
    check_system(system)
    if not isinstance(value, tuple) or not value:
        return False
    word, parts = value[0], value[1:]
    if word == "ordered":
        return _are_pair(system, parts)
    if word == "group":
        return len(parts) == 1 and _are_names(system, parts[0])
    if word == "barred":
        return len(parts) == 1 and is_target(system, parts[0])
    if word in ("always", "never"):
        return len(parts) == 2 and _are_names(system, parts[0]) and is_action_name(system, parts[1])
    return word == "enough" and _are_carriers(system, parts) and is_group(_order_of(system), parts[0])


def holds_in(system, value):
    """Whether the value is a claim that fits the system and is true."""
    if not fits_in(system, value):
        return False
    word, parts = value[0], value[1:]
    if word == "ordered":
        return is_ordered(system, *parts)
    if word == "group":
        return is_group(_order_of(system), parts[0])
    if word == "barred":
        return not Reach(system, parts[0]).is_reachable
    if word == "always":
        return is_always(system, *parts)
    if word == "never":
        return is_never(system, *parts)
    group, asked, names = parts
    return Carriers(_order_of(system), group, asked).is_enough(names)


class Project:
    """A system, and claims that hold in it, which are pinned: what would make one of them false is refused."""

    def __init__(self, system):
        check_system(system)
        # What is there now. It never changes itself; another one takes its place.
        self._current = Stage(_order_of(system), (), None, ())

    @property
    def system(self):
        """The system."""
        return self._current.known.system

    @property
    def claims(self):
        """The pinned claims, ascending."""
        return self._current.pinned

    @property
    def order(self):
        """The order of the system."""
        return self._current.known

    @property
    def turned(self):
        """The pairs of actions, of both systems, that the last call made ordered, or made not ordered any more."""
        return self._current.pairs

    def put(self, action):
        """Add an action, or replace the one with its name."""
        self._turn_to(self.system.with_action(action))

    def drop(self, name):
        """Take an action away."""
        self._turn_to(self.system.without((name,)))

    def pin(self, claim):
        """Pin a claim."""
        if not fits_in(self.system, claim):
            raise InvalidOperation("this is no claim about the system")
        if not holds_in(self.system, claim):
            raise Refused(claim)
        claims = self.claims
        if claim not in claims:
            if len(claims) >= MAX_CLAIMS:
                raise TooMany(MAX_CLAIMS)
            claims = tuple(sorted([*claims, claim]))
        self._go_on(self.order, claims)

    def unpin(self, claim):
        """Pin a claim no longer."""
        if not self._is_pinned(claim):
            raise InvalidOperation("this claim is not pinned")
        self._go_on(self.order, tuple([pinned for pinned in self.claims if pinned != claim]))

    def undo(self, *, many=1):
        """Take back so many calls, and return how many are left."""
        if not is_integer(many) or many < 0:
            raise InvalidNumber(many)
        if many > self._current.calls:
            raise NothingToUndo(many)
        stage = self._current
        for _ in range(many):
            stage = stage.earlier
        pairs = turned_pairs(self.order, stage.known)
        self._current = Stage(stage.known, stage.pinned, stage.earlier, pairs)
        return stage.calls

    def trial(self):
        """A block, for `with`, behind which the project is as before it."""
        return Trial(self)

    def during(self, call):
        """What a call with the project returns in such a block."""
        with self.trial() as same:
            return call(same)

    def twin(self):
        """An independent copy."""
        other = Project(self.system)
        other._current = self._current
        return other

    def renewed(self):
        """A project with the same system and claims, of which nothing is known that came before."""
        other = Project(self.system)
        other._current = Stage(self.order, self.claims, None, ())
        return other

    def _turn_to(self, system):
        """Have another system, if no pinned claim is against it."""
        order = _order_of(system)
        for claim in self.claims:
            if not holds_in(system, claim):
                raise Refused(claim)
        self._go_on(order, self.claims)

    def _go_on(self, order, claims):
        """Have the system of an order, and claims that hold in it, behind one more call."""
        self._current = Stage(order, claims, self._current, turned_pairs(self.order, order))

    def _is_pinned(self, value):
        """Whether the value is a pinned claim."""
        return value in self.claims and not _has_truth(value)

    def __iadd__(self, other):
        self.put(other)
        return self

    def __isub__(self, other):
        self.drop(other)
        return self

    def __getitem__(self, name):
        return self.system[name]

    def __iter__(self):
        return iter(self._current.listed)

    def __contains__(self, value):
        return is_action_name(self.system, value) or self._is_pinned(value)

    def __len__(self):
        return len(self._current.listed)

    def __eq__(self, other):
        return isinstance(other, Project) and self.system == other.system and self.claims == other.claims

    def __str__(self):
        return f"project of {len(self._current.listed)} actions, {len(self._current.pinned)} claims"


class Stage:
    """What a project is behind a call."""

    def __init__(self, known, pinned, earlier, pairs):
        """The order, the claims, the stage ahead of the call, or None, and the pairs that the call has turned."""
        self.known = known
        self.pinned = pinned
        self.earlier = earlier
        self.pairs = pairs
        self.listed = known.system.names
        self.calls = 0 if earlier is None else earlier.calls + 1


def turned_pairs(before, behind):
    """The pairs of actions of two orders that are ordered in one of them only, ascending."""
    if before == behind:
        return ()
    names = [name for name in before.system.names if name in behind.system]
    pairs = [(one, other) for one in names for other in names if one <= other]
    return tuple([pair for pair in pairs if before.is_ordered(*pair) != behind.is_ordered(*pair)])


def _order_of(system):
    """The order of a system, which is kept with it."""
    if "order" not in system.notes:
        system.notes["order"] = Order(system)
    return system.notes["order"]


def _are_pair(system, parts):
    """Whether these are two names of actions, the lesser one first."""
    return len(parts) == 2 and all([is_action_name(system, part) for part in parts]) and parts[0] <= parts[1]


def _are_names(system, value):
    """Whether the value is an ascending tuple of names of actions, of one at least."""
    return are_action_names(system, value) and len(value) > 0


def _are_carriers(system, parts):
    """Whether these can be the names of a group, of asked actions and of carriers, with few enough in question."""
    if len(parts) != 3 or not all([are_action_names(system, part) for part in parts]):
        return False
    group, asked, names = parts
    if not group or len(system) - len(group) > MAX_QUESTION:
        return False
    return not any([name in group for name in [*asked, *names]])


def _has_truth(value):
    """Whether True or False stands in a tuple or in the tuples in it."""
    if isinstance(value, tuple):
        return any([_has_truth(part) for part in value])
    return isinstance(value, bool)
