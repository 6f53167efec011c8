"""Actions, and the systems of agents and pools that they move."""

from groupclocks.base.plans import Plan
from groupclocks.base.words import is_name, is_names
from groupclocks.errors import InvalidAction, InvalidName, InvalidOperation, InvalidSystem, ParseError, UnknownName

MAX_AGENTS = 5
MAX_POOLS = 3
MAX_STATES = 6
MAX_ACTIONS = 16
MAX_MOVES = 4
MAX_SHARED = 3


class Action:
    """A name and one to four moves (owner, source, target). It never changes."""

    def __init__(self, called, moves):
        if not is_name(called):
            raise InvalidName("this is no name of an action")
        if not _are_moves(moves):
            raise InvalidAction("these are not one to four triples of names")
        self._called = called
        self._moves = tuple(sorted(moves))

    @classmethod
    def from_line(cls, line):
        """The action whose text is the line."""
        told = _read_action(line)
        if told is None:
            raise ParseError(None)
        called, moves = told
        return cls(called, moves)

    @property
    def called(self):
        """The name."""
        return self._called

    @property
    def moves(self):
        """The moves, in order."""
        return self._moves

    @property
    def owners(self):
        """The owners that the moves name, ascending."""
        return tuple(sorted({move[0] for move in self._moves}))

    def __len__(self):
        return len(self._moves)

    def __eq__(self, other):
        return isinstance(other, Action) and self._called == other._called and self._moves == other._moves

    def __str__(self):
        return f"{self._called} {_write_moves(self._moves)}"


class System:
    """Agents and pools with their states, and the actions that move them. It never changes."""

    def __init__(self, agents, pools, actions):
        if not _is_system(agents, pools, actions):
            raise InvalidSystem("there is no such system")
        self._agents = _ascending(agents)
        self._pools = _ascending(pools)
        self._actions = _ascending({action.called: action for action in actions})
        self._lines = _write_lines(self._agents, self._pools, self._actions)
        pools = list(self._pools)
        self._plans = {name: Plan(action.moves, pools) for name, action in self._actions.items()}
        # What other modules have worked out about the system and need again: a system never changes.
        self.notes = {}

    @classmethod
    def from_lines(cls, *lines):
        """The system with these lines, in any order."""
        tables = {"agent": {}, "pool": {}, "action": {}}
        for index, line in enumerate(lines):
            told = _read_line(line)
            if told is None or _is_taken(tables, told):
                raise ParseError(index)
            word, name, parts = told
            tables[word][name] = parts
        actions = [Action(name, moves) for name, moves in tables["action"].items()]
        return cls(tables["agent"], tables["pool"], tuple(actions))

    @property
    def agents(self):
        """The dict from the agents to their states."""
        return dict(self._agents)

    @property
    def pools(self):
        """The dict from the pools to their states."""
        return dict(self._pools)

    @property
    def actions(self):
        """The actions, ascending by name."""
        return tuple(self._actions.values())

    @property
    def names(self):
        """The names of the actions, ascending."""
        return tuple(self._actions)

    @property
    def lines(self):
        """The lines of the agents, of the pools and of the actions."""
        return self._lines

    def states(self, owner):
        """The states of an agent or a pool."""
        if isinstance(owner, str) and owner in self._agents:
            return self._agents[owner]
        if isinstance(owner, str) and owner in self._pools:
            return self._pools[owner]
        raise UnknownName(owner)

    def plan(self, name):
        """The plan of the action with this name."""
        return self._plans[name]

    def with_action(self, action):
        """The system with this action, instead of the one with its name."""
        if not isinstance(action, Action):
            raise InvalidAction("this is no action")
        others = [known for known in self.actions if known.called != action.called]
        return self._with_actions(others + [action])

    def without(self, names):
        """The system without the actions with these names."""
        if not isinstance(names, tuple):
            raise InvalidOperation("these names are no tuple")
        for name in names:
            if not self._has_name(name):
                raise UnknownName(name)
        return self._with_actions([action for action in self.actions if action.called not in names])

    def _with_actions(self, actions):
        """The system with these actions instead of its own."""
        if not _is_system(self._agents, self._pools, tuple(actions)):
            raise InvalidOperation("there is no system with such actions")
        return System(self._agents, self._pools, tuple(actions))

    def _has_name(self, value):
        """Whether the value is the name of an action."""
        return isinstance(value, str) and value in self._actions

    def _other_actions(self, other):
        """The actions of another system, which must have equal agents and pools."""
        if not isinstance(other, System) or self._agents != other._agents or self._pools != other._pools:
            raise InvalidOperation("the other operand is no system with equal agents and pools")
        return other.actions

    def __getitem__(self, name):
        if not self._has_name(name):
            raise UnknownName(name)
        return self._actions[name]

    def __iter__(self):
        raise TypeError("a system is not iterable")

    def __contains__(self, value):
        if isinstance(value, Action):
            return value.called in self._actions and self._actions[value.called] == value
        return self._has_name(value)

    def __len__(self):
        return len(self._actions)

    def __eq__(self, other):
        return isinstance(other, System) and self._lines == other._lines

    def __str__(self):
        return f"system of {len(self._agents)} agents, {len(self._pools)} pools, {len(self._actions)} actions"

    def __or__(self, other):
        # Unequal actions of one name both stay: no system has them, which is the error to raise.
        added = [action for action in self._other_actions(other) if action not in self]
        return self._with_actions(list(self.actions) + added)

    def __and__(self, other):
        return self._with_actions([action for action in self._other_actions(other) if action in self])

    # Python asks these only where the left operand is no system; the right one is `self` then.
    def __ror__(self, other):
        raise InvalidOperation("the other operand is no system with equal agents and pools")

    def __rand__(self, other):
        raise InvalidOperation("the other operand is no system with equal agents and pools")


def renamed_system(system, owners, actions):
    """The system with other names of its agents and pools, and of its actions."""
    if not isinstance(system, System):
        raise InvalidSystem("this is no system")
    agents, pools = system.agents, system.pools
    if not _is_renaming(owners, list(agents) + list(pools)):
        raise InvalidOperation("this does not lead from just the owners to different names")
    if not _is_renaming(actions, system.names):
        raise InvalidOperation("this does not lead from just the actions to different names")
    renamed = [_renamed_action(action, owners, actions) for action in system.actions]
    return System(_renamed_keys(agents, owners), _renamed_keys(pools, owners), tuple(renamed))


def _are_moves(value):
    """Whether the value is a tuple of one to four triples of names."""
    if not isinstance(value, tuple) or not 1 <= len(value) <= MAX_MOVES:
        return False
    return all([isinstance(move, tuple) and len(move) == 3 and _are_all_names(move) for move in value])


def _are_all_names(words):
    """Whether each of these is a name."""
    return all([is_name(word) for word in words])


def _are_states(value):
    """Whether the value is a tuple of one to six different names."""
    return is_names(value) and 1 <= len(value) <= MAX_STATES


def _are_owners(value, limit):
    """Whether the value is a dict from at most so many names to states."""
    if not isinstance(value, dict) or len(value) > limit:
        return False
    return all([is_name(name) and _are_states(states) for name, states in value.items()])


def _are_actions(value):
    """Whether the value is a tuple of 1 to 16 actions with different names."""
    if not isinstance(value, tuple) or not 1 <= len(value) <= MAX_ACTIONS:
        return False
    if not all([isinstance(action, Action) for action in value]):
        return False
    return len({action.called for action in value}) == len(value)


def _is_system(agents, pools, actions):
    """Whether there is a system with these agents, pools and actions."""
    if not _are_owners(agents, MAX_AGENTS) or not _are_owners(pools, MAX_POOLS) or not _are_actions(actions):
        return False
    if any([name in pools for name in agents]):
        return False
    # That there is an owner at all need not be asked: no action fits without one.
    return all([_does_fit(action, agents, pools) for action in actions])


def _does_fit(action, agents, pools):
    """Whether an action moves only these owners, between their states, and as often as it may."""
    alone = [move[0] for move in action.moves if move[0] in agents]
    shared = [move[0] for move in action.moves if move[0] in pools]
    if len(alone) + len(shared) < len(action) or len(set(alone)) < len(alone) or len(shared) > MAX_SHARED:
        return False
    states = {**agents, **pools}
    return all([source in states[owner] and goal in states[owner] for owner, source, goal in action.moves])


def _ascending(table):
    """A copy of a dict, with ascending keys."""
    return {name: table[name] for name in sorted(table)}


def _write_lines(agents, pools, actions):
    """The lines of a system with these agents, pools and actions."""
    lone = [" ".join(["agent", name, *states]) for name, states in agents.items()]
    shared = [" ".join(["pool", name, *states]) for name, states in pools.items()]
    return tuple([*lone, *shared, *[f"action {action}" for action in actions.values()]])


def _write_moves(moves):
    """The text of moves in a line."""
    return ", ".join([" ".join(move) for move in moves])


def _read_line(line):
    """What a line tells, as (word, name, states or moves), or None if it is no line."""
    if not isinstance(line, str):
        return None
    word, _, rest = line.partition(" ")
    told = None
    if word == "action":
        told = _read_action(rest)
    elif word in ("agent", "pool"):
        told = _read_owner(rest)
    return None if told is None else (word, *told)


def _read_owner(text):
    """The name and the states in the line of an owner, or None if there are none."""
    words = text.split(" ")
    name, states = words[0], tuple(words[1:])
    return (name, states) if is_name(name) and _are_states(states) else None


def _read_action(line):
    """The name and the moves of the action with this text, or None if there is none."""
    if not isinstance(line, str):
        return None
    called, _, rest = line.partition(" ")
    moves = tuple([tuple(part.split(" ")) for part in rest.split(", ")])
    if not is_name(called) or not _are_moves(moves) or list(moves) != sorted(moves):
        return None
    return called, moves


def _is_taken(tables, told):
    """Whether an earlier line has told of an owner, or of an action, of this name."""
    word, name, _ = told
    if word == "action":
        return name in tables["action"]
    return name in tables["agent"] or name in tables["pool"]


def _is_renaming(value, names):
    """Whether the value is a dict from just these names to different names."""
    if not isinstance(value, dict) or len(value) != len(names) or not all([name in value for name in names]):
        return False
    return _are_all_names([value[name] for name in names]) and len({value[name] for name in names}) == len(names)


def _renamed_keys(table, given):
    """The dict with other keys: those that are given for its own."""
    return {given[name]: table[name] for name in table}


def _renamed_action(action, owners, actions):
    """The action with another name and with other names of owners."""
    moves = [(owners[owner], source, goal) for owner, source, goal in action.moves]
    return Action(actions[action.called], tuple(moves))
