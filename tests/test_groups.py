"""Tests of groups: promises 0.15, 0.20, 0.24 and 0.25, and stage 7."""

import itertools
import types
import unittest

from groupclocks.base.systems import System
from groupclocks.errors import InvalidOperation
from groupclocks.order import groups
from groupclocks.order.groups import (
    each_partition, fewest_groups, greatest_groups, how_many, is_group, loose_actions, parted_run,
)
from groupclocks.order.pairs import Order
from tests import slow
from tests.samples import (
    ALONE, LOCK, MAIL, MIXED, NO_TUPLES, SERVE, TUPLES, TWINS, VALUES, check_error, check_examples, check_late_error, without_kind,
)
from tests.test_pairs import never_system

EXAMPLE = """
>>> [fewest_groups(five, five.system.names), how_many(five, five.system.names), greatest_groups(five, ("p", "q", "r"))]
[3, 5, (('p', 'q'), ('q', 'r'))]
>>> [next(each_partition(five, ("p", "q", "r", "t"))), loose_actions(Order(SERVE)), is_group(Order(LOCK), ("give", "take", "work"))]
[(('p', 'q'), ('r', 't')), ('think',), True]
>>> [fewest_groups(Order(SERVE), ("ask", "think")), parted_run(Order(SERVE), ("ask", "think")).numbers, is_group(five, ("p", "q", "u"))]
[None, (2,), False]
"""
RING = System.from_lines("agent a s", "agent b s", "agent c s", "agent d s", "agent e s", "action p a s s, b s s", "action q b s s, c s s", "action r c s s, d s s", "action t d s s, e s s", "action u a s s, e s s")
FIVE, SERVED, LOCKED = Order(RING), Order(SERVE), Order(LOCK)
TWELVE = tuple("abcdefghijkl")
ASKING = (greatest_groups, fewest_groups, how_many, parted_run)
# No ascending tuples of one to twelve names of actions of SERVE.
NO_NAMES = NO_TUPLES + TUPLES + (
    (), ["ask"], "ask", ("reply", "ask"), ("ask", "ask"), ("ask", "take"), ("ask", None), ("ask", True), ("ask", ("reply",)), ("server",), ("Ask",), (SERVE["ask"],),
)


def crowd(many, agents="pqrst"):
    """An order of so many actions, the one numbered k with the agents that are the bits of k + 1."""
    lines = [f"agent {agent} s" for agent in agents]
    for number in range(many):
        chosen = [agent for at, agent in enumerate(agents) if (number + 1) >> at & 1][:4]
        lines.append(f"action {'abcdefghijklmnop'[number]} " + ", ".join(f"{agent} s s" for agent in chosen))
    return Order(System.from_lines(*lines))


def orders():
    """Several orders."""
    yield from (FIVE, SERVED, LOCKED, Order(MAIL), Order(TWINS), Order(ALONE), Order(MIXED), Order(never_system()), crowd(7, "pqr"), crowd(6, "pqrs"))
    for seed in range(60):
        yield Order(slow.random_system(seed, 2, 2, 2, 5))


def is_group_slowly(order, names):
    """Whether each two of the actions are ordered, and each with itself."""
    return all((one, other) in order.ordered for one in names for other in names if one <= other)


def partitions(names):
    """All partitions of some names, as ascending tuples of ascending tuples."""
    if not names:
        return [()]
    found = []
    for rest in partitions(names[1:]):
        found.append((names[:1], *rest))
        found += [rest[:at] + ((names[0], *group),) + rest[at + 1:] for at, group in enumerate(rest)]
    return [tuple(sorted(one)) for one in found]


class ExampleTest(unittest.TestCase):
    def test_constant(self):
        self.assertEqual(groups.MAX_ASKED, 12)

    def test_examples(self):
        check_examples(self, EXAMPLE, {**vars(groups), "Order": Order, "SERVE": SERVE, "LOCK": LOCK, "five": FIVE})

    def test_one_name(self):
        self.assertEqual((fewest_groups(SERVED, ("ask",)), how_many(SERVED, ("ask",)), greatest_groups(SERVED, ("ask",))), (1, 1, (("ask",),)))
        self.assertEqual((fewest_groups(SERVED, ("think",)), how_many(SERVED, ("think",)), greatest_groups(SERVED, ("think",))), (None, 0, ()))
        self.assertEqual((list(each_partition(SERVED, ("ask",))), list(each_partition(SERVED, ("think",)))), ([(("ask",),)], []))
        self.assertEqual(parted_run(SERVED, ("think",)).numbers, (2,))

    def test_all_partitions_of_the_ring(self):
        found = list(each_partition(FIVE, RING.names))
        self.assertEqual(found[0], (("p",), ("q", "r"), ("t", "u")))
        self.assertEqual((len(found), found), (5, sorted(found)))

    def test_twelve_names_and_thirteen(self):
        order = crowd(16, "pqrst")
        names = order.system.names
        self.assertEqual(names[:12], TWELVE)
        least = fewest_groups(order, names[:12])
        self.assertEqual(len(next(each_partition(order, names[:12]))), least)
        self.assertEqual(sum(1 for _ in each_partition(order, names[:12])), how_many(order, names[:12]))
        for call in ASKING:
            check_error(self, InvalidOperation, {}, call, order, names[:13])
        check_late_error(self, InvalidOperation, {}, each_partition, order, names[:13])

    def test_many_partitions_one_by_one(self):
        system = System.from_lines(*[f"agent {agent} s" for agent in "pqrst"], *[f"action {name} p s s" for name in TWELVE])
        order = Order(system)
        self.assertEqual((fewest_groups(order, TWELVE), how_many(order, TWELVE), list(each_partition(order, TWELVE))), (1, 1, [(TWELVE,)]))
        order = crowd(12, "pqrs")
        first, second = each_partition(order, TWELVE), each_partition(order, TWELVE)
        self.assertIsInstance(first, types.GeneratorType)
        one, other = next(first), next(first)
        self.assertEqual((next(second), next(second)), (one, other))
        self.assertLess(one, other)


class WalkTest(unittest.TestCase):
    def test_groups(self):
        for order in orders():
            names = order.system.names
            for many in range(1, len(names) + 1):
                for chosen in itertools.combinations(names, many):
                    self.assertIs(is_group(order, chosen), is_group_slowly(order, chosen))
            self.assertEqual(loose_actions(order), tuple(name for name in names if (name, name) not in order.ordered))

    def test_greatest_groups(self):
        for order in orders():
            for chosen in self.chosen(order):
                known = [one for many in range(1, len(chosen) + 1) for one in itertools.combinations(chosen, many) if is_group_slowly(order, one)]
                greatest = [one for one in known if not any(set(one) < set(other) for other in known)]
                self.assertEqual(greatest_groups(order, chosen), tuple(sorted(greatest)))

    def test_every_partition(self):
        for order in orders():
            for chosen in self.chosen(order):
                known = [one for one in partitions(chosen) if all(is_group_slowly(order, group) for group in one)]
                least = min((len(one) for one in known), default=None)
                best = sorted(one for one in known if len(one) == least)
                self.assertEqual(fewest_groups(order, chosen), least)
                self.assertEqual(how_many(order, chosen), len(best))
                self.assertEqual(list(each_partition(order, chosen)), best)

    def test_runs_that_part(self):
        for order in orders():
            for chosen in self.chosen(order):
                if is_group_slowly(order, chosen):
                    check_error(self, InvalidOperation, {}, parted_run, order, chosen)
                    continue
                run = parted_run(order, chosen)
                self.assertIsNotNone(slow.at_end(order.system, run.numbers, run.events))
                self.assertTrue({event[0] for event in run.events[-2:]} <= set(chosen))
                self.assertTrue(slow.is_concurrent(slow.all_pasts(order.system, run.events), len(run) - 2, len(run) - 1))
                members = [order.least_members(one, other) for one in chosen for other in chosen]
                self.assertEqual(sum(run.numbers), min(number for number in members if number is not None))

    def chosen(self, order):
        """Some ascending tuples of names of actions of an order."""
        names = order.system.names
        for many in range(1, min(len(names), 6) + 1):
            yield from list(itertools.combinations(names, many))[:12]


class StatementTest(unittest.TestCase):
    def test_order_does_not_pass_on(self):
        # [0.24]: p and q are ordered, and q and r, but not p and r.
        self.assertIs(("p", "q") in FIVE and ("q", "r") in FIVE, True)
        self.assertIs(("p", "r") in FIVE, False)

    def test_ordered_actions_need_share_no_agent(self):
        # [0.24]
        self.assertIs(("take", "work") in LOCKED, True)
        self.assertNotIn("lock", LOCK["work"].owners)

    def test_more_than_two_members(self):
        # [0.24]: these actions are ordered with two members of the pool, but not with more.
        system = System.from_lines("pool x a b", "action two x a a, x a b", "action one x b b")
        order = Order(system)
        for numbers in ((0,), (1,), (2,)):
            self.assertFalse(slow.can_be_concurrent(system, numbers, "one", "two"))
        self.assertEqual((order.is_ordered("one", "two"), order.least_members("one", "two")), (False, 3))

    def test_the_fewest_groups_are_more_than_actions_that_are_not_ordered(self):
        # [0.24]: of the ring, no three actions are pairwise not ordered, but it needs three groups.
        apart = [chosen for chosen in itertools.combinations(RING.names, 3) if not any(pair in FIVE for pair in itertools.combinations(chosen, 2))]
        self.assertEqual((apart, fewest_groups(FIVE, RING.names)), ([], 3))

    def test_one_more_move(self):
        # [0.24]: "work" is ordered with itself in LOCK, but not if "take" leads a second member in.
        wider = LOCK.with_action(System.from_lines("agent lock free taken", "pool client out in", "action take client out in, client out in, lock free taken")["take"])
        self.assertIs(Order(wider).is_ordered("work", "work"), False)
        # Also the action itself that gets a move: with one letter more, "get" can bring about what "send" does.
        system = System.from_lines("agent p s t", "pool x a b", "action go p s s", "action on x b b", "action stay x a a")
        more = system.with_action(System.from_lines("agent p s t", "pool x a b", "action go p s s, x a b")["go"])
        self.assertIs(Order(system).is_ordered("go", "on"), True)
        self.assertIs(Order(more).is_ordered("go", "on"), False)

    def test_one_before_the_other_need_not_be_ordered(self):
        # [0.24]: each "get" has a "send" before it, but they are not ordered.
        self.assertIs(Order(MAIL).is_ordered("get", "send"), False)
        for events, _ in slow.all_runs(MAIL, (2,), 4):
            pasts = slow.all_pasts(MAIL, events)
            for index, event in enumerate(events):
                self.assertTrue(event[0] == "send" or any(events[at][0] == "send" for at in pasts[index]))

    def test_taking_actions_out_need_not_help(self):
        # [0.24]: without all others, two clients still can think at once.
        self.assertIs(Order(SERVE.without(("ask", "reply"))).is_ordered("think", "think"), False)

    def test_three_of_which_each_two_are_a_group(self):
        # [0.25]
        for order in orders():
            for chosen in itertools.combinations(order.system.names, 3):
                if all(is_group(order, pair) for pair in itertools.combinations(chosen, 2)):
                    self.assertIs(is_group(order, chosen), True)

    def test_a_move_of_a_new_agent(self):
        # [0.25]: it keeps ordered what was ordered.
        for order in list(orders())[:40]:
            system = order.system
            if len(system.agents) < 5:
                for name in system.names:
                    if len(system[name]) < 4:
                        lines = [f"action {name} " + ", ".join(" ".join(move) for move in sorted([*system[name].moves, ("new", "s", "s")])) if line.startswith(f"action {name} ") else line for line in system.lines]
                        wider = Order(System.from_lines("agent new s", *lines))
                        self.assertTrue(set(order.ordered) <= set(wider.ordered))

    def test_events_of_a_group_are_a_row(self):
        # [0.20]
        for order in (SERVED, LOCKED, Order(MAIL)):
            known = greatest_groups(order, order.system.names)
            for events, _ in slow.all_runs(order.system, (2,), 4):
                pasts = slow.all_pasts(order.system, events)
                for group in known:
                    row = [index for index, event in enumerate(events) if event[0] in group]
                    self.assertTrue(all(one in pasts[other] for one, other in zip(row, row[1:])))


class ErrorTest(unittest.TestCase):
    def test_no_order(self):
        for value in without_kind(VALUES, Order):
            for call in ASKING:
                check_error(self, InvalidOperation, {}, call, value, None)
                check_error(self, InvalidOperation, {}, call, value, ("ask",))
            check_error(self, InvalidOperation, {}, is_group, value, ("ask",))
            check_error(self, InvalidOperation, {}, loose_actions, value)
            check_late_error(self, InvalidOperation, {}, each_partition, value, ("ask",))

    def test_no_names(self):
        for value in NO_NAMES:
            for call in ASKING:
                check_error(self, InvalidOperation, {}, call, SERVED, value)
            check_late_error(self, InvalidOperation, {}, each_partition, SERVED, value)

    def test_no_group(self):
        for value in NO_NAMES + (("ask", "think"), ("think",), ("ask", "reply", "think")):
            self.assertIs(is_group(SERVED, value), False)
        self.assertIs(is_group(SERVED, ("ask", "reply")), True)
        names = tuple("abcdefghijklmnop")
        self.assertIs(is_group(Order(System.from_lines("agent p s", *[f"action {name} p s s" for name in names])), names), True)

    def test_nothing_is_changed(self):
        names = FIVE.system.names
        told = list(each_partition(FIVE, names))
        told.clear()
        self.assertEqual((len(list(each_partition(FIVE, names))), FIVE), (5, Order(RING)))


if __name__ == "__main__":
    unittest.main()
