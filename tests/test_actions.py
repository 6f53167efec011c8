"""Tests of Action: promises 0.8 and 2.1, and what the interface says of it."""

import itertools
import unittest

from groupclocks.base.systems import Action
from groupclocks.errors import InvalidAction, InvalidName, ParseError
from tests.samples import SERVE, VALUES, changed_texts, check_equality, is_action_text

OUT_IN, IDLE_BUSY = ("client", "out", "in"), ("server", "idle", "busy")
LINES = (
    "ask client out in, server idle busy",
    "think client out out",
    "swap a b c, a b c",
    "meet a s s, a s t, b s s, c s s",
    "agent agent agent agent",
    "abcdefgh abcdefgh abcdefgh abcdefgh",
)
# Each of these is like a line of an action but for one thing.
NO_LINES = (
    "", " ", "ask", "ask ", "ask client", "ask client out", "ask client out in out", "ask client out in,",
    "ask client out in, ", "ask client out in,server idle busy", "ask client out in , server idle busy",
    "ask client out in,  server idle busy", "ask  client out in", "ask client  out in", "ask client out  in",
    " ask client out in", "ask client out in ", "ask, client out in", "ask client, out in", ", client out in",
    "ask , client out in", "ask client out in, , server idle busy", "ask client out in\n", "\nask client out in",
    "ask client out in\nserver idle busy", "ask\nclient out in", "ask\tclient out in", "Ask client out in",
    "ask Client out in", "ask client out In", "ask client out 1", "ask client out -", "asking client out in in",
    "abcdefghi client out in", "ask abcdefghi out in", "ask client abcdefghi in", "ask client out abcdefghi",
    "ask server idle busy, client out in", "ask client out out, client out in", "action ask client out in",
    "ask a s s, a s s, a s s, a s s, a s s", "ask client out in, server idle", "ask client out in; server idle busy",
)
NO_MOVES = (
    (), (OUT_IN,) * 5, OUT_IN, (OUT_IN, None), (OUT_IN, ()), (("client", "out"),), (("client", "out", "in", "in"),),
    (list(OUT_IN),), [OUT_IN], {OUT_IN: OUT_IN}, (("Client", "out", "in"),), (("client", "", "in"),),
    (("client", "out", "abcdefghi"),), (("client", "out", 1),), (("client", None, "in"),), (("client", True, "in"),),
    (((), "out", "in"),), (({}, "out", "in"),), ("ask", "out", "in"), ("abc",), ((1, 2, 3),), (OUT_IN, ["a"]),
)


class ActionTest(unittest.TestCase):
    def test_properties(self):
        ask = Action("ask", (OUT_IN, IDLE_BUSY))
        self.assertEqual((ask.called, ask.moves, ask.owners), ("ask", (OUT_IN, IDLE_BUSY), ("client", "server")))
        self.assertEqual((len(ask), str(ask)), (2, "ask client out in, server idle busy"))

    def test_moves_in_other_orders(self):
        moves = (("a", "s", "s"), ("b", "s", "s"), ("b", "s", "t"), ("c", "r", "s"))
        for passed in itertools.permutations(moves):
            action = Action("meet", passed)
            self.assertEqual((action.moves, action), (moves, Action("meet", moves)))
            self.assertEqual(str(action), "meet a s s, b s s, b s t, c r s")

    def test_equal_moves_stay_beside_one_another(self):
        action = Action("meet", (OUT_IN, IDLE_BUSY, OUT_IN, OUT_IN))
        self.assertEqual(action.moves, (OUT_IN, OUT_IN, OUT_IN, IDLE_BUSY))
        self.assertEqual((len(action), action.owners), (4, ("client", "server")))
        self.assertEqual(str(action), "meet client out in, client out in, client out in, server idle busy")

    def test_one_to_four_moves(self):
        for many in (1, 2, 3, 4):
            self.assertEqual(len(Action("a", (OUT_IN,) * many)), many)

    def test_owners_ascend(self):
        action = Action("a", (("d", "s", "s"), ("b", "s", "s"), ("c", "s", "s"), ("b", "r", "s")))
        self.assertEqual(action.owners, ("b", "c", "d"))

    def test_edges_of_names(self):
        action = Action("abcdefgh", (("abcdefgh", "z", "z"),))
        self.assertEqual(str(action), "abcdefgh abcdefgh z z")

    def test_invalid_name_comes_first(self):
        for called in VALUES + ("", "abcdefghi", "a b"):
            for moves in ((OUT_IN,), (), None):
                with self.assertRaises(InvalidName):
                    Action(called, moves)

    def test_invalid_moves(self):
        for moves in NO_MOVES + VALUES:
            with self.assertRaises(InvalidAction):
                Action("ask", moves)

    def test_it_never_changes(self):
        action = Action("ask", (OUT_IN,))
        for name in ("called", "moves", "owners"):
            with self.assertRaises(AttributeError):
                setattr(action, name, ())
        self.assertEqual(action, Action("ask", (OUT_IN,)))

    def test_it_is_not_iterable(self):
        action = Action("ask", (OUT_IN, IDLE_BUSY))
        for walk in (iter, list, tuple, sorted, set, lambda value: [*value], lambda value: OUT_IN in value):
            with self.assertRaises(TypeError):
                walk(action)

    def test_equality(self):
        ask = Action("ask", (OUT_IN, IDLE_BUSY))
        check_equality(self, ask, Action("ask", (IDLE_BUSY, OUT_IN)), True)
        check_equality(self, ask, ask, True)
        others = (Action("ask", (OUT_IN,)), Action("tell", (OUT_IN, IDLE_BUSY)), Action("ask", (OUT_IN, OUT_IN)),
                  Action("ask", (OUT_IN, ("server", "busy", "idle"))), "ask", str(ask), (OUT_IN, IDLE_BUSY))
        for other in others + VALUES:
            check_equality(self, ask, other, False)


class ActionLineTest(unittest.TestCase):
    def test_there_and_back(self):
        for line in LINES:
            action = Action.from_line(line)
            self.assertIs(type(action), Action)
            self.assertEqual(str(action), line)
        for action in SERVE.actions:
            self.assertEqual(Action.from_line(str(action)), action)

    def test_parts(self):
        action = Action.from_line(LINES[0])
        self.assertEqual((action.called, action.moves), ("ask", (OUT_IN, IDLE_BUSY)))
        self.assertEqual(action, Action("ask", (IDLE_BUSY, OUT_IN)))

    def test_no_lines(self):
        for line in NO_LINES + VALUES:
            with self.assertRaises(ParseError, msg=line) as caught:
                Action.from_line(line)
            self.assertIsNone(caught.exception.line)

    def test_lines_with_one_sign_changed(self):
        for line in LINES:
            for changed in changed_texts(line):
                if is_action_text(changed):
                    self.assertEqual(str(Action.from_line(changed)), changed)
                else:
                    with self.assertRaises(ParseError, msg=changed):
                        Action.from_line(changed)


if __name__ == "__main__":
    unittest.main()
