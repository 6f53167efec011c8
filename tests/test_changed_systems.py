"""Tests of the systems that come from others: with_action, without, |, & and renamed_system."""

import itertools
import unittest

from groupclocks.base.systems import Action, System, renamed_system
from groupclocks.errors import InvalidAction, InvalidOperation, InvalidSystem, UnknownName
from tests.samples import LOCK, MAIL, SERVE, SERVE_LINES, VALUES, is_like, without_kind

REST = Action("rest", (("client", "out", "out"),))
SAME = System(SERVE.agents, SERVE.pools, (REST,))


def part(*names):
    """SERVE with only these actions."""
    return System(SERVE.agents, SERVE.pools, tuple(SERVE[name] for name in names))


def many(first, last):
    """A system like SERVE with an action for each letter from one to another."""
    letters = [chr(code) for code in range(ord(first), ord(last) + 1)]
    return System(SERVE.agents, SERVE.pools, tuple(Action("go" + letter, REST.moves) for letter in letters))


class ChangedTest(unittest.TestCase):
    def tearDown(self):
        # No call, with an error or without one, changes the systems that it was given.
        self.assertEqual(SERVE.lines, SERVE_LINES)
        self.assertEqual(SAME.lines, SERVE_LINES[:2] + ("action rest client out out",))

    def fails(self, kind, call, *rest):
        with self.assertRaises(kind, msg=rest) as caught:
            call(*rest)
        return caught.exception


class WithActionTest(ChangedTest):
    def test_a_new_action(self):
        made = SERVE.with_action(REST)
        self.assertEqual(made.names, ("ask", "reply", "rest", "think"))
        self.assertEqual((made["rest"], made["ask"], made.agents), (REST, SERVE["ask"], SERVE.agents))
        self.assertEqual(made.pools, SERVE.pools)

    def test_instead_of_the_one_with_its_name(self):
        other = Action("think", (("client", "in", "in"),))
        made = SERVE.with_action(other)
        self.assertEqual((made.names, made["think"]), (SERVE.names, other))
        self.assertEqual(made.with_action(SERVE["think"]), SERVE)
        self.assertEqual(SERVE.with_action(SERVE["think"]), SERVE)

    def test_a_full_system(self):
        full = many("a", "p")
        self.assertEqual(full.with_action(Action("goa", (("client", "in", "in"),))).names, full.names)
        self.fails(InvalidOperation, full.with_action, REST)

    def test_no_action(self):
        for value in without_kind(VALUES, Action) + ["think", REST.moves, str(REST)]:
            self.fails(InvalidAction, SERVE.with_action, value)

    def test_no_such_system(self):
        for line in ("go other out out", "go client out gone", "go client gone out", "ask server idle busy, server idle idle",
                     "go client out out, client out out, client out out, client out out"):
            self.fails(InvalidOperation, SERVE.with_action, Action.from_line(line))


class WithoutTest(ChangedTest):
    def test_without_some(self):
        self.assertEqual(SERVE.without(("think",)), part("ask", "reply"))
        self.assertEqual(SERVE.without(("think", "ask")), part("reply"))
        self.assertEqual(SERVE.without(("ask", "think")), part("reply"))
        self.assertEqual(SERVE.without(()), SERVE)

    def test_repeats_mean_nothing(self):
        self.assertEqual(SERVE.without(("ask", "think", "ask")), part("reply"))
        self.assertEqual(SERVE.without(("ask",) * 40), part("reply", "think"))

    def test_no_tuple(self):
        for value in without_kind(VALUES, tuple) + [["think"], "think", {"think": True}]:
            self.fails(InvalidOperation, SERVE.without, value)

    def test_unknown_names(self):
        for value in VALUES + ("work", "client", SERVE["ask"], ("ask",)):
            for names in ((value,), ("ask", value, "fly"), ("ask", "reply", "think", value), (value, value)):
                error = self.fails(UnknownName, SERVE.without, names)
                self.assertTrue(is_like(error.wanted, value), (error.wanted, value))
        self.assertIs(self.fails(UnknownName, SERVE.without, (True, 1)).wanted, True)
        self.assertIs(self.fails(UnknownName, SERVE.without, (1, True)).wanted, 1)

    def test_no_action_is_left(self):
        self.fails(InvalidOperation, SERVE.without, SERVE.names)
        self.fails(InvalidOperation, SERVE.without, ("think", "ask", "reply", "ask"))
        self.fails(InvalidOperation, SAME.without, ("rest",))


class BothTest(ChangedTest):
    def test_either(self):
        self.assertEqual(SERVE | SAME, SERVE.with_action(REST))
        self.assertEqual(SAME | SERVE, SERVE.with_action(REST))
        self.assertEqual(part("ask", "reply") | part("reply", "think"), SERVE)
        self.assertEqual(SERVE | SERVE, SERVE)
        self.assertEqual((part("think") | part("ask")).names, ("ask", "think"))

    def test_both(self):
        self.assertEqual(SERVE & SERVE, SERVE)
        self.assertEqual(part("ask", "reply") & part("reply", "think"), part("reply"))
        self.assertEqual(SERVE & part("think", "ask"), part("ask", "think"))

    def test_in_place_makes_a_new_one(self):
        made = kept = part("ask")
        made |= part("think")
        self.assertEqual((made, kept), (part("ask", "think"), part("ask")))
        made &= part("think")
        self.assertEqual(made, part("think"))

    def test_unequal_actions_of_one_name(self):
        other = SERVE.with_action(Action("think", (("client", "in", "in"),)))
        self.assertEqual(SERVE & other, part("ask", "reply"))
        self.fails(InvalidOperation, lambda: SERVE | other)
        self.fails(InvalidOperation, lambda: other | SERVE)
        self.fails(InvalidOperation, lambda: other & part("think"))

    def test_no_action_in_both(self):
        self.fails(InvalidOperation, lambda: SERVE & SAME)
        self.fails(InvalidOperation, lambda: part("ask") & part("reply"))

    def test_too_many_actions(self):
        self.assertEqual(many("a", "j") | many("f", "p"), many("a", "p"))
        self.fails(InvalidOperation, lambda: many("a", "j") | many("i", "q"))
        self.assertEqual(many("a", "j") & many("j", "t"), many("j", "j"))

    def test_other_operands(self):
        moved = System.from_lines("agent server busy idle", *SERVE_LINES[1:])
        wider = System.from_lines(*SERVE_LINES, "agent other s")
        deeper = System.from_lines(*SERVE_LINES, "pool other s")
        turned = System(SERVE.pools, SERVE.agents, SERVE.actions)
        for other in without_kind(VALUES, System) + [LOCK, MAIL, moved, wider, deeper, turned]:
            for call in (lambda: SERVE | other, lambda: SERVE & other, lambda: other | SERVE, lambda: other & SERVE):
                self.fails(InvalidOperation, call)


class RenamedTest(ChangedTest):
    def setUp(self):
        self.owners = {"client": "user", "server": "host"}
        self.actions = {"ask": "z", "reply": "b", "think": "a"}

    def test_other_names(self):
        made = renamed_system(SERVE, self.owners, self.actions)
        self.assertEqual(made.lines, (
            "agent host idle busy", "pool user out in",
            "action a user out out", "action b host busy idle, user in out", "action z host idle busy, user out in",
        ))
        self.assertEqual(self.owners, {"client": "user", "server": "host"})
        self.assertEqual(self.actions, {"ask": "z", "reply": "b", "think": "a"})

    def test_the_same_names(self):
        owners, actions = {name: name for name in ("client", "server")}, {name: name for name in SERVE.names}
        self.assertEqual(renamed_system(SERVE, owners, actions), SERVE)

    def test_names_may_be_exchanged(self):
        owners, actions = {"client": "server", "server": "client"}, {"ask": "reply", "reply": "ask", "think": "think"}
        made = renamed_system(SERVE, owners, actions)
        self.assertEqual(made.agents, {"client": ("idle", "busy")})
        self.assertEqual(str(made["reply"]), "reply client idle busy, server out in")
        self.assertEqual(renamed_system(made, owners, actions), SERVE)

    def test_there_and_back(self):
        for names in itertools.permutations(("p", "q", "letter")):
            owners = dict(zip(("letter", "p", "q"), names))
            made = renamed_system(MAIL, owners, {"send": "get", "get": "send"})
            back = {new: old for old, new in owners.items()}
            self.assertEqual(renamed_system(made, back, {"send": "get", "get": "send"}), MAIL)

    def test_what_is_passed_is_not_shared(self):
        made = renamed_system(SERVE, self.owners, self.actions)
        lines = made.lines
        self.owners["client"] = "other"
        self.actions.clear()
        self.assertEqual(made.lines, lines)

    def test_no_system(self):
        for value in without_kind(VALUES, System):
            self.fails(InvalidSystem, renamed_system, value, self.owners, self.actions)
            self.fails(InvalidSystem, renamed_system, value, None, None)

    def wrong_tables(self, table):
        """Values that are like this dict from names to names, but are none for the same names."""
        one, two = list(table)[:2]
        return without_kind(VALUES, dict) + [
            {}, {one: "x"}, {**table, "more": "x"}, {**table, 1: "x"}, {**table, one: table[two]}, {**table, one: "X"},
            {**table, one: ""}, {**table, one: None}, {**table, one: True}, {**table, one: 1}, {**table, one: ("x",)},
            {**table, one: ["x"]}, {**table, one: "abcdefghi"}, {**table, one: "a b"},
            {(name if name != one else "more"): table[name] for name in table},
            {(name if name != one else None): table[name] for name in table}, list(table), tuple(table.items()),
        ]

    def test_no_such_dicts(self):
        for wrong in self.wrong_tables(self.owners):
            self.fails(InvalidOperation, renamed_system, SERVE, wrong, self.actions)
        for wrong in self.wrong_tables(self.actions):
            self.fails(InvalidOperation, renamed_system, SERVE, self.owners, wrong)
        self.fails(InvalidOperation, renamed_system, SERVE, self.actions, self.owners)
        self.assertEqual(self.owners, {"client": "user", "server": "host"})


if __name__ == "__main__":
    unittest.main()
