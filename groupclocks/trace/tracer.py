"""A tracer: the events of one run, recorded one by one, and which participants they bring together."""

from groupclocks.base.checks import is_index
from groupclocks.base.trials import Trial
from groupclocks.base.words import is_integer
from groupclocks.clocks.clocks import Clocks
from groupclocks.errors import InvalidClocks, InvalidNumber, InvalidOperation, NothingToUndo
from groupclocks.runs.runs import Run
from groupclocks.trace.meetings import Meetings, is_order, moments_of, stays_of

MAX_TOGETHER = 3


class Tracer:
    """Records the events of one run."""

    def __init__(self, system, numbers, *, clocks=None):
        # The run of the recorded events. It never changes itself; another one takes its place.
        self._current = Run(system, numbers)
        if clocks is not None and not (isinstance(clocks, Clocks) and clocks.system == system):
            raise InvalidClocks("these are no clocks of the system")
        self._clocks = clocks

    @property
    def record(self):
        """The run of the recorded events."""
        return self._current

    @property
    def clocks(self):
        """The clocks, or None."""
        return self._clocks

    @property
    def told(self):
        """The stamps of the recorded events."""
        if self._clocks is None:
            raise InvalidOperation("there are no clocks")
        return self._clocks.stamps(self._current)

    def add(self, event):
        """Record an event, and return its index."""
        self._current = self._current + event
        return len(self._current) - 1

    def stays(self, participant):
        """The stays of a participant, in order: triples (state, begin, end)."""
        if not self._is_participant(participant):
            raise InvalidOperation("there is no such participant")
        return stays_of(self._current, participant)

    def can_meet(self, *wishes):
        """Whether the wishes are fulfilled together in some moment of some order."""
        self._check_wishes(wishes)
        return Meetings(self._current, wishes).common() is not None

    def must_meet(self, *wishes):
        """Whether the wishes are fulfilled together in some moment of each order."""
        self._check_wishes(wishes)
        return Meetings(self._current, wishes).must_meet()

    def meeting(self, *wishes):
        """An order, and a number of its events behind which the wishes are fulfilled together; or None."""
        self._check_wishes(wishes)
        return Meetings(self._current, wishes).meeting()

    def parting(self, *wishes):
        """An order in no moment of which the wishes are fulfilled together, or None."""
        self._check_wishes(wishes)
        return Meetings(self._current, wishes).parting()

    def is_meeting(self, value, *wishes):
        """Whether the value is an order with a number of its events behind which the wishes are fulfilled."""
        self._check_wishes(wishes)
        if not isinstance(value, tuple) or len(value) != 2 or not is_index(value[1], len(self._current) + 1):
            return False
        return is_order(self._current, value[0]) and moments_of(self._current, value[0], wishes)[value[1]]

    def is_parting(self, value, *wishes):
        """Whether the value is an order in no moment of which the wishes are fulfilled."""
        self._check_wishes(wishes)
        return is_order(self._current, value) and not any(moments_of(self._current, value, wishes))

    def undo(self, *, many=1):
        """Take back so many events, and return how many are left."""
        if not is_integer(many) or many < 0:
            raise InvalidNumber(many)
        if many > len(self._current):
            raise NothingToUndo(many)
        self._current = self._current.shortened(many)
        return len(self._current)

    def trial(self):
        """A block, for `with`, behind which the tracer has the events that it had before."""
        return Trial(self)

    def during(self, call):
        """What a call with the tracer returns in such a block."""
        with self.trial() as same:
            return call(same)

    def twin(self):
        """An independent copy."""
        other = Tracer(self._current.system, self._current.numbers, clocks=self._clocks)
        other._current = self._current
        return other

    def _is_participant(self, value):
        """Whether the value is a participant of the run."""
        if not isinstance(value, tuple) or len(value) != 2 or not isinstance(value[0], str):
            return False
        # The participants are asked for only what can be a key, and True is not 1.
        return is_integer(value[1]) and self._current.has_participant(value)

    def _is_wish(self, value):
        """Whether the value is a pair of a participant and a state of its owner."""
        if not isinstance(value, tuple) or len(value) != 2 or not self._is_participant(value[0]):
            return False
        return value[1] in self._current.system.states(value[0][0])

    def _check_wishes(self, wishes):
        """Raise an error if these are no wishes."""
        if not 1 <= len(wishes) <= MAX_TOGETHER or not all([self._is_wish(wish) for wish in wishes]):
            raise InvalidOperation("these are no wishes")
        if len(set([who for who, _ in wishes])) < len(wishes):
            raise InvalidOperation("two wishes are about one participant")

    def __iadd__(self, other):
        self.add(other)
        return self

    def __getitem__(self, index):
        return self._current[index]

    def __iter__(self):
        raise TypeError("a tracer is not iterable")

    def __len__(self):
        return len(self._current)

    def __bool__(self):
        return bool(len(self._current) > 0)

    def __eq__(self, other):
        return isinstance(other, Tracer) and self._current == other._current and self._clocks == other._clocks

    def __str__(self):
        return f"tracer of {len(self._current)} events"
