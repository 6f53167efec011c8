"""Tests of System as it is made and asked: promises 0.2, 0.4, 0.7, 0.8 and 2.1."""

import itertools
import re
import unittest

from groupclocks.base import systems
from groupclocks.base.systems import Action, System
from groupclocks.errors import InvalidSystem, ParseError, UnknownName
from tests.samples import (
    DEEP, LOCK, MAIL, NO_TUPLES, SERVE, SERVE_LINES, VALUES, changed_texts, check_equality, check_examples,
    is_action_text, is_like, without_kind,
)

EXAMPLE = """
>>> [str(SERVE), SERVE["ask"].moves, SERVE.states("client"), SERVE.lines[1], str(SERVE.without(("think",)))]
['system of 1 agents, 1 pools, 3 actions', (('client', 'out', 'in'), ('server', 'idle', 'busy')), ('out', 'in'), 'pool client out in', 'system of 1 agents, 1 pools, 2 actions']
>>> [str(renamed_system(LOCK, {"lock": "mutex", "client": "user"}, {"take": "a", "work": "b", "give": "c"})["a"]), "work" in LOCK, LOCK["work"] in SERVE]
['a mutex free taken, user out in', True, False]
"""
SIX = tuple("abcdef")
STAY = Action("stay", (("client", "out", "out"),))
POOLS = {"client": ("out", "in")}


def stays(many, owner="client", state="out"):
    """So many actions with different names, each with one move."""
    return tuple(Action("stay" + letter, ((owner, state, state),)) for letter in "abcdefghijklmnopqrst"[:many])


def owners(many, first="a"):
    """So many owners with a single state."""
    return {first + letter: ("s",) for letter in "abcdefgh"[:many]}


class MadeTest(unittest.TestCase):
    def test_constants(self):
        known = (systems.MAX_AGENTS, systems.MAX_POOLS, systems.MAX_STATES, systems.MAX_ACTIONS, systems.MAX_MOVES,
                 systems.MAX_SHARED)
        self.assertEqual(known, (5, 3, 6, 16, 4, 3))

    def test_examples(self):
        check_examples(self, EXAMPLE, dict(vars(systems), SERVE=SERVE, LOCK=LOCK))

    def test_from_parts(self):
        ask = Action("ask", (("server", "idle", "busy"), ("client", "out", "in")))
        reply = Action("reply", (("client", "in", "out"), ("server", "busy", "idle")))
        think = Action("think", (("client", "out", "out"),))
        agents, pools = {"server": ("idle", "busy")}, {"client": ("out", "in")}
        for actions in itertools.permutations((ask, reply, think)):
            made = System(agents, pools, actions)
            self.assertEqual((made, made.actions), (SERVE, (ask, reply, think)))

    def test_properties(self):
        self.assertEqual(SERVE.agents, {"server": ("idle", "busy")})
        self.assertEqual(SERVE.pools, {"client": ("out", "in")})
        self.assertEqual(SERVE.names, ("ask", "reply", "think"))
        self.assertEqual(SERVE.actions, (SERVE["ask"], SERVE["reply"], SERVE["think"]))
        self.assertEqual(SERVE.lines, SERVE_LINES)
        for value in (SERVE.names, SERVE.actions, SERVE.lines):
            self.assertIs(type(value), tuple)
        for value in (SERVE.agents, SERVE.pools):
            self.assertIs(type(value), dict)

    def test_all_ascends(self):
        agents, pools = {"q": ("t", "s"), "p": ("s",), "r": ("s",)}, {"y": ("s",), "x": ("b", "a", "c")}
        made = System(agents, pools, stays(3, "p", "s")[::-1])
        self.assertEqual(list(made.agents), ["p", "q", "r"])
        self.assertEqual(list(made.pools), ["x", "y"])
        self.assertEqual(made.names, ("staya", "stayb", "stayc"))
        self.assertEqual(made.lines, (
            "agent p s", "agent q t s", "agent r s", "pool x b a c", "pool y s",
            "action staya p s s", "action stayb p s s", "action stayc p s s",
        ))

    def test_len_and_str(self):
        self.assertEqual([len(SERVE), len(LOCK), len(MAIL)], [3, 3, 2])
        self.assertEqual(str(MAIL), "system of 2 agents, 1 pools, 2 actions")
        self.assertEqual(str(System({}, POOLS, stays(16))), "system of 0 agents, 1 pools, 16 actions")

    def test_as_many_as_there_may_be(self):
        made = System({**owners(4), "full": SIX}, {**owners(2, "b"), "pool": SIX}, stays(16, "pool", "f"))
        self.assertEqual((len(made.agents), len(made.pools), len(made), made.states("full")), (5, 3, 16, SIX))
        self.assertEqual(System.from_lines(*made.lines), made)

    def test_only_agents_or_only_pools(self):
        self.assertEqual(System({}, POOLS, (STAY,)).agents, {})
        self.assertEqual(System(POOLS, {}, (STAY,)).pools, {})

    def test_names_may_be_equal_where_nothing_forbids_it(self):
        made = System.from_lines("agent agent agent pool", "pool action agent pool", "action agent action agent pool")
        self.assertEqual(made["agent"].moves, (("action", "agent", "pool"),))
        self.assertEqual(made.states("agent"), made.states("action"))

    def test_moves_of_pools(self):
        pools = {"a": ("s",), "b": ("s",)}
        for moves in ("a s s, a s s, a s s", "a s s, a s s, b s s", "a s s, a s s, b s s, p s s", "p s s, q s s"):
            made = System({"p": ("s",), "q": ("s",)}, pools, (Action.from_line("go " + moves),))
            self.assertEqual(str(made["go"]), "go " + moves)


class InvalidTest(unittest.TestCase):
    def refuse(self, agents, pools, actions):
        with self.assertRaises(InvalidSystem, msg=(agents, pools)):
            System(agents, pools, actions)

    def test_too_many_or_too_few(self):
        self.refuse(owners(6), POOLS, (STAY,))
        self.refuse({}, {**owners(3), **POOLS}, (STAY,))
        self.refuse({}, {}, (STAY,))
        self.refuse({}, POOLS, ())
        self.refuse({}, POOLS, stays(17))

    def test_states(self):
        for states in ((), SIX + ("g",), ("out", "out"), ("out", "in", "out"), ("out", "In"), ("out", ""), ["out"], "out",
                       ("out", 1), ("out", None), ("out", ["in"]), {"out": "in"}, None, ("out", "abcdefghi")):
            self.refuse({}, {"client": states}, (STAY,))
            self.refuse({"client": states}, {}, (STAY,))
            self.refuse({"other": states}, POOLS, (STAY,))

    def test_names_of_owners(self):
        for name in ("", "Other", "abcdefghi", "a b", "o1", 1, True, None, (), ("a",)):
            self.refuse({name: ("s",)}, POOLS, (STAY,))
            self.refuse({}, {name: ("s",), **POOLS}, (STAY,))
        self.refuse(POOLS, POOLS, (STAY,))
        self.refuse({"client": ("out",), "other": ("s",)}, POOLS, (STAY,))

    def test_actions(self):
        self.refuse({}, POOLS, (STAY, STAY))
        self.refuse({}, POOLS, (STAY, Action("stay", (("client", "in", "in"),))))
        self.refuse({}, POOLS, [STAY])
        self.refuse({}, POOLS, STAY)
        for value in without_kind(VALUES, Action):
            self.refuse({}, POOLS, (STAY, value))
            self.refuse({}, POOLS, (value,))
        for value in NO_TUPLES:
            self.refuse({}, POOLS, value)

    def test_moves(self):
        agents, pools = {"p": ("s", "t"), "q": ("s",)}, {"a": ("s", "t"), "b": ("s",)}
        for moves in ("c s s", "a s u", "a u s", "b s t", "p s s, p s s", "p s t, p t s", "p s s, q s s, q s s",
                      "a s s, a s s, a s s, a s s", "a s s, a s s, b s s, b s s", "q t s", "a s s, r s s"):
            self.refuse(agents, pools, (Action.from_line("go " + moves),))
            self.refuse(agents, pools, (Action.from_line("fine a s t"), Action.from_line("go " + moves)))

    def test_values_of_other_kinds(self):
        for value in without_kind(VALUES, dict) + [{1: 2}, {None: []}, {"a": DEEP}, {"a": SERVE}]:
            self.refuse(value, POOLS, (STAY,))
            self.refuse({}, value, (STAY,))
            self.refuse(value, value, value)

    def test_several_wrong_ones(self):
        for wrong in itertools.product((None, {}, {"Client": ("out",)}), (None, {}), (None, (), (None,))):
            self.refuse(*wrong)


class LinesTest(unittest.TestCase):
    def fail_at(self, index, *lines):
        with self.assertRaises(ParseError, msg=lines) as caught:
            System.from_lines(*lines)
        self.assertTrue(is_like(caught.exception.line, index), (lines, caught.exception.line))

    def test_in_any_order(self):
        for lines in itertools.permutations(SERVE_LINES):
            made = System.from_lines(*lines)
            self.assertEqual((made, made.lines), (SERVE, SERVE_LINES))
            self.assertIs(type(made), System)

    def test_order_of_states_counts(self):
        made = System.from_lines("agent server busy idle", *SERVE_LINES[1:])
        self.assertEqual((made.states("server"), made == SERVE), (("busy", "idle"), False))

    def test_no_lines(self):
        wrong = ("", " ", "agent", "agent ", "agent p", "agent p ", "agent p s s", "agent p s t s", "agent p a b c d e f g",
                 "agent P s", "agent p S", "agent p s1", "agent abcdefghi s", "agent p abcdefghi", "agent  p s",
                 "agent p  s", "agent p s ", " agent p s", "agent p s, t", "agent p, s", "agent, p s", "agent p s\n",
                 "agent p s\nagent q s", "Agent p s", "agents p s", "p s", "pool", "pool p", "pool p s s", "pool p s,",
                 "pools p s", "action", "action ", "action go", "action go p s", "action go p s s,", "action go p s s ",
                 "action go p s s,p s s", "action go q s s, p s s", "actions go p s s", "go p s s",
                 "action go p s s, p s s, p s s, p s s, p s s", "system of 1 agents, 1 pools, 3 actions", "-")
        for line in wrong + VALUES:
            self.fail_at(0, line)
            self.fail_at(3, *SERVE_LINES[:3], line, *SERVE_LINES[3:])
            self.fail_at(5, *SERVE_LINES, line)
            self.fail_at(1, SERVE_LINES[0], line, line, SERVE_LINES[0])

    def test_lines_with_one_sign_changed(self):
        for at, line in enumerate(SERVE_LINES):
            for changed in changed_texts(line):
                lines = SERVE_LINES[:at] + (changed,) + SERVE_LINES[at + 1:]
                try:
                    self.assertEqual(System.from_lines(*lines).lines.count(changed), 1)
                except ParseError as error:
                    self.assertFalse(self.is_line(changed), changed)
                    self.assertEqual(error.line, at)
                except InvalidSystem:
                    self.assertTrue(self.is_line(changed), changed)

    def is_line(self, text):
        """Whether the text is a line, told by other means than the package's."""
        if text.startswith("action "):
            return is_action_text(text[len("action "):])
        match = re.fullmatch(r"(?:agent|pool) [a-z]{1,8}((?: [a-z]{1,8}){1,6})", text)
        return match is not None and len(set(match.group(1).split())) == len(match.group(1).split())

    def test_names_told_before(self):
        agent, pool, action = "agent a s", "pool b s", "action a b s s"
        for again in ("agent a s", "agent b s", "pool a s t", "pool b s t", "action a b s s", "action a a s s"):
            self.fail_at(3, agent, pool, action, again)
            self.fail_at(4, agent, pool, action, "pool c s", again, again, "")
        self.fail_at(1, "agent a s", "pool a s")
        self.fail_at(1, "action a b s s", "action a b s s")
        self.assertEqual(System.from_lines(agent, pool, action, "action b b s s").names, ("a", "b"))

    def test_a_line_that_is_none_comes_before_a_system_that_is_none(self):
        for lines in (("action go c s s",), ("agent a s", "action go a s s, a s s"), ("agent a s", "action go a s t"),
                      ("agent a s", "pool b s", "action go b s s, b s s, b s s, b s s"), ("agent a s",)):
            with self.assertRaises(InvalidSystem):
                System.from_lines(*lines)
            self.fail_at(len(lines), *lines, "agent")
            self.fail_at(0, None, *lines)

    def test_no_system(self):
        many_agents = [f"agent {name} s" for name in owners(6)]
        many_pools = [f"pool {name} s" for name in owners(4)]
        many_actions = [f"action {action}" for action in stays(17, "aa", "s")]
        for lines in ((), SERVE_LINES[:2], SERVE_LINES[2:], (*many_agents, "action go aa s s"),
                      (*many_pools, "action go aa s s"), ("pool aa s", *many_actions)):
            with self.assertRaises(InvalidSystem):
                System.from_lines(*lines)
        self.assertEqual(len(System.from_lines("pool aa s", *many_actions[:16])), 16)


class AskedTest(unittest.TestCase):
    def test_item(self):
        self.assertEqual(SERVE["ask"], Action.from_line("ask client out in, server idle busy"))
        for name in SERVE.names:
            self.assertEqual(SERVE[name].called, name)

    def test_unknown_names(self):
        for name in VALUES + ("work", "server", "client", "out", SERVE["ask"], 0, slice(0, 1)):
            with self.assertRaises(UnknownName) as caught:
                SERVE[name]
            self.assertTrue(is_like(caught.exception.wanted, name))

    def test_states(self):
        self.assertEqual((SERVE.states("server"), SERVE.states("client")), (("idle", "busy"), ("out", "in")))
        self.assertEqual(MAIL.states("letter"), ("blank", "sent", "used"))
        for owner in VALUES + ("ask", "out", "lock", ("server", 0)):
            with self.assertRaises(UnknownName) as caught:
                SERVE.states(owner)
            self.assertTrue(is_like(caught.exception.wanted, owner))

    def test_in(self):
        self.assertIs("ask" in SERVE, True)
        self.assertIs(SERVE["ask"] in SERVE, True)
        self.assertIs(Action("think", (("client", "out", "out"),)) in SERVE, True)
        for value in VALUES + ("work", "server", "out", LOCK["work"], Action("think", (("client", "in", "in"),)), STAY):
            self.assertIs(value in SERVE, False)
            self.assertIs(value not in SERVE, True)

    def test_it_is_not_iterable(self):
        for walk in (iter, list, tuple, sorted, set, dict, enumerate, lambda value: [*value], max):
            with self.assertRaises(TypeError):
                walk(SERVE)

    def test_equality(self):
        check_equality(self, SERVE, SERVE, True)
        check_equality(self, SERVE, System(SERVE.agents, SERVE.pools, SERVE.actions), True)
        others = (LOCK, MAIL, SERVE.without(("think",)), System(POOLS, {}, (STAY,)), SERVE_LINES, str(SERVE))
        for other in others + tuple(without_kind(VALUES, System)):
            check_equality(self, SERVE, other, False)
        check_equality(self, System(POOLS, {}, (STAY,)), System({}, POOLS, (STAY,)), False)
        check_equality(self, System({}, POOLS, (STAY,)), System({}, {"client": ("in", "out")}, (STAY,)), False)
        check_equality(self, System({}, POOLS, (STAY,)), System({}, {**POOLS, "other": ("s",)}, (STAY,)), False)
        check_equality(self, System({}, POOLS, (STAY,)), System({"p": ("s",)}, POOLS, (STAY,)), False)

    def test_it_never_changes(self):
        for name in ("agents", "pools", "actions", "names", "lines"):
            with self.assertRaises(AttributeError):
                setattr(SERVE, name, ())
        with self.assertRaises(TypeError):
            SERVE["ask"] = STAY
        self.assertEqual(SERVE.lines, SERVE_LINES)

    def test_nothing_passed_or_told_is_shared(self):
        agents, pools = {"b": ("s",), "a": ("t",)}, {"client": ("out",)}
        made = System(agents, pools, (STAY,))
        self.assertEqual((list(agents), list(pools)), (["b", "a"], ["client"]))
        lines = made.lines
        agents["c"] = ("s",)
        agents["a"] = ("u",)
        pools.clear()
        made.agents.clear()
        made.pools["client"] = ("in",)
        made.agents["a"] = ()
        self.assertEqual((made.lines, made.agents), (lines, {"a": ("t",), "b": ("s",)}))
        self.assertEqual((made.pools, made.states("client")), ({"client": ("out",)}, ("out",)))
        self.assertEqual(System.from_lines(*lines), made)

    def test_an_error_leaves_what_was_passed(self):
        agents, pools = {"b": ("s",), "a": ["t"]}, {"client": ("out",)}
        with self.assertRaises(InvalidSystem):
            System(agents, pools, (STAY,))
        self.assertEqual((agents, pools), ({"b": ("s",), "a": ["t"]}, {"client": ("out",)}))


if __name__ == "__main__":
    unittest.main()
