"""Tests of what is ordered: promises 0.15, 0.19, 0.23 to 0.25 and 6.1, and stage 6."""

import itertools
import unittest

from groupclocks.base.systems import System
from groupclocks.cover.patterns import needs_of_both
from groupclocks.cover.reach import Reach
from groupclocks.errors import InvalidOperation, InvalidSystem, TooMany, UnknownName
from groupclocks.order import pairs
from groupclocks.order.pairs import Order, is_order_certificate, is_ordered
from groupclocks.runs.runs import Run
from tests import slow
from tests.samples import (
    ALONE, LOCK, MAIL, MIXED, SERVE, TWINS, VALUES, check_equality, check_error, check_examples, check_fixed,
    check_not_iterable, without_kind,
)

EXAMPLE = """
>>> [serve.ordered, serve.concurrent, serve.least_members("think", "ask"), serve.certificate("ask", "reply")]
[(('ask', 'ask'), ('ask', 'reply'), ('reply', 'reply')), (('ask', 'think'), ('reply', 'think'), ('think', 'think')), 2, ('shared', 'server')]
>>> [mail.least_members("send", "get"), str(mail.run("get", "send")), len(Order(LOCK)), is_order_certificate(LOCK, "work", "work", ("closed", ()))]
[2, 'run of 3 events, 2 members', 6, False]
"""
SERVED, LOCKED, MAILED = Order(SERVE), Order(LOCK), Order(MAIL)
# The sum of the needs of two actions of this system has rounds of more than 400 patterns.
SPREAD = System.from_lines(
    *[f"pool {pool} a b c d e f" for pool in "xyz"],
    *[f"action {pool}{one} {pool} {one} {other}" for pool in "xyz" for one, other in zip("abcde", "bcdef")],
    "action all x f f, y f f, z f f",
)


def small_systems():
    """Some systems, each with all numbers of few members."""
    for system in (SERVE, LOCK, MAIL, TWINS, ALONE, MIXED):
        yield system, slow.all_numbers(system, 4 if system == TWINS else 3)
    for seed in range(60):
        system = slow.random_system(seed, 2, 2, 2, 3)
        yield system, slow.all_numbers(system, 3)


def never_system():
    """A system with an action that is never possible."""
    return System.from_lines("agent p s t", "pool x a b", "action never p t t, x b b", "action over x a a", "action still p s s")


class ExampleTest(unittest.TestCase):
    def test_examples(self):
        check_examples(self, EXAMPLE, {**vars(pairs), "LOCK": LOCK, "serve": SERVED, "mail": MAILED})

    def test_properties(self):
        self.assertEqual((LOCKED.system, LOCKED.concurrent), (LOCK, ()))
        self.assertEqual(LOCKED.ordered, tuple(itertools.combinations_with_replacement(("give", "take", "work"), 2)))
        self.assertEqual((len(SERVED), str(SERVED)), (3, "order of 3 actions, 3 ordered pairs"))
        self.assertEqual((MAILED.ordered, MAILED.concurrent), ((("get", "get"), ("send", "send")), (("get", "send"),)))

    def test_without_pools_and_without_agents(self):
        order = Order(ALONE)
        self.assertEqual(order.ordered, (("both", "both"), ("both", "left"), ("both", "right"), ("left", "left"), ("right", "right")))
        self.assertEqual((order.least_members("left", "right"), order.run("right", "left").events), (0, (("right", ()), ("left", ()))))
        self.assertEqual(order.certificate("left", "right"), ("run", (), ()))
        order = Order(TWINS)
        self.assertEqual((order.ordered, order.least_members("both", "both"), order.least_members("three", "three")), ((), 4, 6))
        self.assertEqual(order.run("three", "both").numbers, (6,))

    def test_an_action_that_is_never_possible(self):
        order = Order(never_system())
        for name in order.system.names:
            self.assertIs(order.is_ordered("never", name), True)
            self.assertIs(is_ordered(order.system, name, "never"), True)
            self.assertIsNone(order.least_members(name, "never"))
        self.assertEqual(order.certificate("never", "over")[0], "closed")
        self.assertEqual(order.certificate("never", "still"), ("shared", "p"))
        self.assertIs(order.is_ordered("over", "still"), False)

    def test_several_shared_agents(self):
        system = System.from_lines("agent p s", "agent q s", "agent r s", "action one p s s, q s s", "action two p s s, q s s, r s s")
        order = Order(system)
        self.assertIn(order.certificate("one", "two"), (("shared", "p"), ("shared", "q")))
        for agent, expected in (("p", True), ("q", True), ("r", False)):
            self.assertIs(is_order_certificate(system, "one", "two", ("shared", agent)), expected)
            self.assertIs(is_order_certificate(system, "two", "two", ("shared", agent)), True)


class WalkTest(unittest.TestCase):
    def test_order_of_all_pairs(self):
        for system, many in small_systems():
            order = Order(system)
            for one, other in itertools.combinations_with_replacement(system.names, 2):
                least = order.least_members(one, other)
                found = [sum(numbers) for numbers in many if (one, other) in order.concurrent or sum(numbers) < 3
                         if slow.can_be_concurrent(system, numbers, one, other)]
                if (one, other) in order.ordered:
                    self.assertEqual((least, found), (None, []))
                elif least <= max(sum(numbers) for numbers in many):
                    self.assertEqual(least, min(found))
                else:
                    self.assertEqual(found, [])

    def test_every_short_run(self):
        for system, many in small_systems():
            order = Order(system)
            for numbers in [numbers for numbers in many if sum(numbers) <= 2]:
                for events, _ in slow.all_runs(system, numbers, 3):
                    pasts = slow.all_pasts(system, events)
                    for one, other in itertools.combinations(range(len(events)), 2):
                        if slow.is_concurrent(pasts, one, other):
                            self.assertNotIn((events[one][0], events[other][0]), order)

    def test_it_agrees_with_itself(self):
        for system, _ in small_systems():
            order = Order(system)
            self.assertEqual(sorted(order.ordered + order.concurrent), list(itertools.combinations_with_replacement(system.names, 2)))
            self.assertEqual([list(order.ordered), list(order.concurrent)], [sorted(order.ordered), sorted(order.concurrent)])
            for one, other in itertools.product(system.names, repeat=2):
                told = (one, other) in order.ordered or (other, one) in order.ordered
                self.assertIs(order.is_ordered(one, other), told)
                self.assertIs(is_ordered(system, one, other), told)
                self.assertIs((one, other) in order, told)
                self.assertEqual(order.least_members(one, other), order.least_members(other, one))
                self.check_certificate(order, one, other, told)

    def check_certificate(self, order, one, other, told):
        """Check the certificate and the run for two actions."""
        system, found = order.system, order.certificate(one, other)
        self.assertIs(is_order_certificate(system, one, other, found), True)
        self.assertIs(is_order_certificate(system, other, one, found), True)
        if told:
            self.assertEqual(found[0], "shared" if needs_of_both(system, one, other) is None else "closed")
            check_error(self, InvalidOperation, {}, order.run, one, other)
            return
        self.assertEqual((found[0], sum(found[1])), ("run", order.least_members(one, other)))
        run = order.run(one, other)
        self.assertEqual((type(run), run.system, sum(run.numbers)), (Run, system, order.least_members(one, other)))
        self.assertIsNotNone(slow.at_end(system, run.numbers, run.events))
        pasts = slow.all_pasts(system, run.events)
        self.assertEqual((run.events[-2][0], run.events[-1][0]), (one, other))
        self.assertTrue(slow.is_concurrent(pasts, len(run) - 2, len(run) - 1))

    def test_actions_taken_out(self):
        # [0.23]: they never make ordered actions unordered.
        for system, _ in small_systems():
            for name in system.names:
                if len(system) > 1:
                    less = Order(system.without((name,)))
                    for pair in Order(system).ordered:
                        self.assertTrue(name in pair or pair in less)


class CertificateTest(unittest.TestCase):
    def test_of_three_forms(self):
        self.assertEqual(SERVED.certificate("reply", "ask"), ("shared", "server"))
        closed = LOCKED.certificate("work", "work")
        self.assertEqual(closed, ("closed", Reach(LOCK, ((), (("client", "in", 2),))).closed))
        self.assertEqual(SERVED.certificate("think", "think"), ("run", (2,), ()))
        self.assertEqual(MAILED.certificate("get", "send")[:2], ("run", (2,)))

    def test_more_members_and_events_than_necessary(self):
        for value in (("run", (2,), ()), ("run", (5,), ()), ("run", (3,), (("ask", (2,)), ("think", (0,)))), ("run", (2000,), (("think", (0,)),) * 2000)):
            self.assertIs(is_order_certificate(SERVE, "think", "think", value), True)
        for value in (("run", (1,), ()), ("run", (2,), (("ask", (0,)),)), ("run", (2,), (("think", (0,)),) * 2001), ("run", (2001,), ())):
            self.assertIs(is_order_certificate(SERVE, "think", "think", value), False)

    def test_values_near_a_right_one(self):
        for value in (("shared", "client"), ("shared", "lock"), ("shared", ("server",)), ("shared",), ("shared", "server", 0), ["shared", "server"], ("Shared", "server"), "server",
                      ("closed", ()), ("run", (2,), ()), ("shared", None), ("shared", ["server"]), ("shared", {"server": 1}), ("shared", SERVE)):
            self.assertIs(is_order_certificate(SERVE, "ask", "reply", value), False, value)
        closed = LOCKED.certificate("work", "take")
        self.assertIs(is_order_certificate(LOCK, "work", "take", closed), True)
        for value in (("shared", "lock"), ("closed", closed[1][1:]), ("closed", closed[1][::-1]), ("closed",), ("run", (2,), ()), closed[1]):
            self.assertIs(is_order_certificate(LOCK, "work", "take", value), False, value)

    def test_values_of_every_kind(self):
        for value in VALUES:
            for whole in (value, ("shared", value), ("closed", value), ("run", value, ()), ("run", (2,), value), (value, "server"), ("closed", (value,))):
                self.assertIs(is_order_certificate(SERVE, "ask", "reply", whole), False)
                self.assertIs(is_order_certificate(LOCK, "work", "work", whole), False)


class LimitTest(unittest.TestCase):
    def test_too_many(self):
        check_error(self, TooMany, {"limit": 400}, Order, SPREAD)
        check_error(self, TooMany, {"limit": 400}, is_ordered, SPREAD, "all", "all")
        self.assertIs(is_ordered(SPREAD, "xa", "xb"), False)
        self.assertIs(is_order_certificate(SPREAD, "all", "all", ("run", (2, 2, 2), ())), False)

    def test_shared_agents_are_not_looked_into(self):
        # Both actions need what is too much to look into, but they share an agent.
        lines = [line for line in SPREAD.lines if not line.startswith("action all")]
        system = System.from_lines(*lines, "agent p s", "action all p s s, x f f, y f f, z f f")
        self.assertIs(is_ordered(system, "all", "all"), True)
        self.assertIs(is_order_certificate(system, "all", "all", ("shared", "p")), True)


class ErrorTest(unittest.TestCase):
    def test_no_system(self):
        for value in without_kind(VALUES, System):
            check_error(self, InvalidSystem, {}, Order, value)
            check_error(self, InvalidSystem, {}, is_ordered, value, None, None)
            check_error(self, InvalidSystem, {}, is_order_certificate, value, None, None, None)

    def test_no_action(self):
        calls = [SERVED.is_ordered, SERVED.least_members, SERVED.certificate, SERVED.run, lambda one, other: is_ordered(SERVE, one, other),
                 lambda one, other: is_order_certificate(SERVE, one, other, None)]
        for name in VALUES + ("take", "server", ("ask",), SERVE["ask"]):
            for call in calls:
                check_error(self, UnknownName, {"wanted": name}, call, name, None)
                check_error(self, UnknownName, {"wanted": name}, call, name, "ask")
                check_error(self, UnknownName, {"wanted": name}, call, "ask", name)
        self.assertEqual(SERVED, Order(SERVE))

    def test_contents(self):
        self.assertIs(("ask", "reply") in SERVED and ("reply", "ask") in SERVED and ("ask", "ask") in SERVED, True)
        for value in VALUES + (("ask", "think"), ("think", "think"), ("ask",), ("ask", "reply", "ask"), ["ask", "reply"], ("ask", "take"), ("ask", None),
                               (["ask"], "ask"), ("ask", SERVE["ask"]), "ask", ("Ask", "ask")):
            self.assertIs(value in SERVED, False, value)

    def test_equality(self):
        check_equality(self, SERVED, Order(SERVE), True)
        check_equality(self, SERVED, LOCKED, False)
        for value in without_kind(VALUES, Order) + [SERVE, SERVED.ordered, str(SERVED)]:
            check_equality(self, SERVED, value, False)

    def test_it_never_changes(self):
        check_fixed(self, SERVED, "system", "ordered", "concurrent")
        check_not_iterable(self, SERVED)
        check_not_iterable(self, Order(TWINS))


if __name__ == "__main__":
    unittest.main()
