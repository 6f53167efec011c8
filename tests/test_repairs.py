"""Tests of actions that are taken out: promises 12.1 to 12.3, and what 0.22 to 0.25 say of them."""

import itertools
import random
import unittest

from groupclocks.base.systems import System
from groupclocks.cover.patterns import needs_of, needs_of_both
from groupclocks.cover.reach import Reach
from groupclocks.errors import InvalidOperation, InvalidSystem, TooMany, UnknownName
from groupclocks.order.pairs import Order, is_ordered
from groupclocks.past import repairs as module
from groupclocks.past.always import is_always
from groupclocks.past.repairs import (
    block_certificate, is_block, is_block_certificate, is_repair, is_repair_certificate, least_blocks, least_repairs,
    repair_certificate,
)
from tests import judge, slow
from tests.samples import (
    ALONE, LOCK, MAIL, MIXED, NO_TUPLES, SERVE, TUPLES, TWINS, VALUES, check_error, check_examples, without_kind,
)

EXAMPLE = """
>>> [least_repairs(SERVE, "think", "think"), least_repairs(MAIL, "get", "send"), least_repairs(MAIL, "get", "get"), least_repairs(LOCK, "work", "work")]
[(), (), ((),), ((),)]
>>> [least_blocks(MAIL, ((), (("letter", "used", 1),))), least_blocks(LOCK, two_in), least_blocks(SERVE, ((), (("client", "out", 2),)))]
[(('get',), ('send',)), ((),), ()]
>>> [least_repairs(door, "stay", "stay"), is_repair(door, "stay", "stay", ("enter", "leave")), least_repairs(door, "enter", "enter")]
[(('enter',),), True, ()]
>>> [shown[0][0], shown[1]["enter"][:2], is_repair_certificate(door, "stay", "stay", ("enter",), (("closed", (((), (("guest", "in", 1),)),)), shown[1]))]
['closed', ('run', (2,)), True]
"""
TWO_IN = ((), (("client", "in", 2),))
DOOR = System.from_lines("pool guest out in", "action enter guest out in", "action stay guest in in", "action leave guest in out")
EMPTY = ((), ())


def ways(many):
    """A system in which a member goes on in so many ways, and then works."""
    return System.from_lines("pool x s t", "action work x t t", *[f"action go{letter} x s t" for letter in "abcdefghijklmno"[:many]])


def in_steps(many):
    """A system in which an agent goes on in so many steps, each of which some action can make."""
    states = ("k", "l", "m", "n", "o")[:many + 1]
    steps = [f"action s{one}{other} p {one} {other}" for one, other in zip(states, states[1:])]
    return System.from_lines("agent p " + " ".join(states), *steps), (((("p", states[-1])),), ())


def small_systems():
    """Several small systems."""
    return [SERVE, LOCK, MAIL, TWINS, ALONE, MIXED, DOOR, ways(4)] + [slow.random_system(seed, 2, 1, 3, 4) for seed in range(50)]


def sets_of(names, most=3):
    """All ascending tuples of at most so many of the names."""
    return [one for many in range(most + 1) for one in itertools.combinations(names, many)]


def is_met(system, taken, target, most):
    """Whether the target is reachable without some actions and with at most so many members, by walking."""
    for numbers in slow.all_numbers(system, most):
        events = [event for event in slow.all_events(system, numbers) if event[0] not in taken]
        found = level = [slow.start_of(system, numbers)]
        while level:
            following = [slow.behind(system, states, event) for states in level for event in events]
            level = []
            for states in following:
                if states is not None and states not in found and states not in level:
                    level.append(states)
            found = found + level
        if any(slow.does_match(states, target) for states in found):
            return True
    return False


def some_targets(system, seed):
    """Some targets of a system."""
    source = random.Random(seed)
    every = list(slow.all_patterns(system, 2))
    return source.sample(every, min(len(every), 4)) + [EMPTY]


def is_shown(system, target, names, value):
    """Whether the value shows that the target is reachable without all of the names but one, but not without all."""
    if type(value) is not tuple or len(value) != 2 or type(value[1]) is not dict or set(value[1]) != set(names):
        return False
    left = [name for name in system.names if name not in names]
    return (judge.does_bar(system, left, target, value[0])
            and all(judge.does_reach(system, [*left, name], target, value[1][name]) for name in names))


class ExampleTest(unittest.TestCase):
    def test_examples(self):
        known = {name: getattr(module, name) for name in dir(module)}
        known.update(SERVE=SERVE, LOCK=LOCK, MAIL=MAIL, two_in=TWO_IN, door=DOOR, shown=repair_certificate(DOOR, "stay", "stay", ("enter",)))
        check_examples(self, EXAMPLE, known)
        self.assertEqual((module.MAX_OTHERS, module.MAX_TAKEN), (10, 3))

    def test_three_actions_and_four(self):
        three = ways(3)
        self.assertEqual(least_repairs(three, "work", "work"), (("goa", "gob", "goc"),))
        self.assertEqual(least_blocks(three, needs_of(three, "work")), (("goa", "gob", "goc"),))
        found = repair_certificate(three, "work", "work", ("goa", "gob", "goc"))
        self.assertEqual((list(found[1]), found[1]["gob"]), (["goa", "gob", "goc"], ("run", (2,), (("gob", (1,)), ("gob", (0,))))))
        self.assertTrue(is_repair_certificate(three, "work", "work", ("goa", "gob", "goc"), found))
        # Four would have to be taken out.
        four = ways(4)
        self.assertEqual((least_repairs(four, "work", "work"), least_blocks(four, needs_of(four, "work"))), ((), ()))
        self.assertFalse(is_repair(four, "work", "work", ("goa", "gob", "goc", "god")))
        self.assertFalse(is_block(four, needs_of(four, "work"), ("goa", "gob", "goc", "god")))
        check_error(self, InvalidOperation, {}, repair_certificate, four, "work", "work", ("goa", "gob", "goc", "god"))

    def test_nothing_has_to_be_taken_out(self):
        self.assertEqual(repair_certificate(LOCK, "give", "take", ()), (("shared", "lock"), {}))
        self.assertTrue(is_repair_certificate(LOCK, "give", "take", (), (("shared", "lock"), {})))
        for value in ((("shared", "client"), {}), (("shared", "lock"), {"work": ()}), (("shared", "lock"), ()), ["shared", {}], ("shared", "lock"), (["shared", "lock"], {})):
            self.assertFalse(is_repair_certificate(LOCK, "give", "take", (), value))
        self.assertFalse(is_repair_certificate(LOCK, "give", "take", ("work",), (("shared", "lock"), {})))
        self.assertFalse(is_repair_certificate(LOCK, "give", "take", ("work",), (("shared", "lock"), {"work": ("run", (0,), ())})))
        check_error(self, InvalidOperation, {}, repair_certificate, LOCK, "give", "take", ("work",))
        kind, runs = repair_certificate(LOCK, "work", "work", ())
        self.assertEqual((kind[0], runs), ("closed", {}))
        self.assertTrue(is_repair(LOCK, "work", "work", ()))
        self.assertTrue(is_repair(LOCK, "give", "take", ("work",)))

    def test_all_actions_taken_out(self):
        self.assertTrue(is_block(MAIL, ((), (("letter", "used", 1),)), ("get", "send")))
        self.assertFalse(is_block(MAIL, ((), (("letter", "blank", 3),)), ("get", "send")))
        self.assertFalse(is_block(MAIL, EMPTY, ("get", "send")))
        both = System.from_lines("pool x s t", "action a x s t", "action b x s t")
        target = ((), (("x", "t", 1),))
        found = block_certificate(both, target, ("a", "b"))
        self.assertEqual((least_blocks(both, target), found[0]), ((("a", "b"),), ("closed", (target,))))
        self.assertEqual(found[1], {"a": ("run", (1,), (("a", (0,)),)), "b": ("run", (1,), (("b", (0,)),))})
        # Nothing else is asked of the patterns if no action is left.
        self.assertTrue(is_block_certificate(both, target, ("a", "b"), (("closed", (target, ((), (("x", "t", 5),)))), found[1])))
        self.assertFalse(is_block_certificate(both, target, ("a", "b"), (("closed", (((), (("x", "s", 1),)), target)), found[1])))

    def test_targets_that_the_start_matches(self):
        for names in sets_of(SERVE.names):
            self.assertFalse(is_block(SERVE, ((("server", "idle"),), (("client", "out", 40),)), names))
        for names in sets_of(LOCK.names):
            self.assertTrue(is_block(LOCK, TWO_IN, names))
        check_error(self, InvalidOperation, {}, block_certificate, SERVE, EMPTY, ("ask",))

    def test_one_action_twice_and_in_both_orders(self):
        for system in small_systems():
            for one in system.names:
                for other in system.names:
                    if one <= other:
                        self.assertEqual(least_repairs(system, one, other), least_repairs(system, other, one))

    def test_ten_others_and_eleven(self):
        ten = ways(11)
        self.assertEqual(least_repairs(ten, "goa", "work"), ())
        self.assertEqual(least_repairs(ways(10), "work", "work"), ())
        check_error(self, TooMany, {"limit": 10}, least_repairs, ten, "work", "work")
        check_error(self, TooMany, {"limit": 10}, least_repairs, ways(12), "goa", "work")
        target = needs_of(ten, "work")
        self.assertEqual(least_blocks(ways(9), target), ())
        check_error(self, TooMany, {"limit": 10}, least_blocks, ways(10), target)
        # Also for two that share an agent.
        wide = System.from_lines("agent p s", *[f"action a{letter} p s s" for letter in "abcdefghijklm"])
        check_error(self, TooMany, {"limit": 10}, least_repairs, wide, "aa", "ab")
        self.assertEqual(least_repairs(wide.without(("am",)), "aa", "ab"), ((),))
        # The others ask for one set only.
        self.assertFalse(is_repair(ways(12), "work", "work", ("goa",)))
        self.assertFalse(is_block(ways(12), target, ("goa",)))
        check_error(self, InvalidOperation, {}, repair_certificate, ways(12), "work", "work", ("goa",))
        check_error(self, InvalidOperation, {}, block_certificate, ways(12), target, ("goa",))


class TruthTest(unittest.TestCase):
    def test_repairs_by_the_words(self):
        for system in small_systems():
            for one, other in itertools.combinations_with_replacement(system.names, 2):
                target = needs_of_both(system, one, other)
                names = [name for name in system.names if name not in (one, other)]
                rows = [taken for taken in sets_of(names) if self.is_ordered_without(system, one, other, taken)]
                least = [taken for taken in rows if not any(set(part) < set(taken) for part in rows)]
                self.assertEqual(least_repairs(system, one, other), tuple(sorted(least)))
                for taken in sets_of(names):
                    self.assertIs(is_repair(system, one, other, taken), taken in rows)
                    if taken in least:
                        found = repair_certificate(system, one, other, taken)
                        self.assertTrue(target is None or is_shown(system, target, taken, found))
                        self.assertIs(is_repair_certificate(system, one, other, taken, found), True)
                    else:
                        check_error(self, InvalidOperation, {}, repair_certificate, system, one, other, taken)

    def is_ordered_without(self, system, one, other, taken):
        """Whether two actions are ordered without some others, with a walk for the other case."""
        found = is_ordered(system.without(taken), one, other)
        target = needs_of_both(system, one, other)
        if found and target is not None:
            self.assertFalse(is_met(system, taken, target, 2))
        return found

    def test_blocks_by_the_words(self):
        for seed, system in enumerate(small_systems()):
            for target in some_targets(system, seed):
                rows = [taken for taken in sets_of(system.names) if not self.is_met(system, taken, target)]
                least = [taken for taken in rows if not any(set(part) < set(taken) for part in rows)]
                self.assertEqual(least_blocks(system, target), tuple(sorted(least)))
                for taken in sets_of(system.names):
                    self.assertIs(is_block(system, target, taken), taken in rows)
                    if taken in least:
                        found = block_certificate(system, target, taken)
                        self.assertTrue(is_shown(system, target, taken, found))
                        self.assertIs(is_block_certificate(system, target, taken, found), True)
                        for name in taken:
                            self.assertEqual(sum(found[1][name][1]), self.fewest(system, tuple(one for one in taken if one != name), target))
                    else:
                        check_error(self, InvalidOperation, {}, block_certificate, system, target, taken)

    def is_met(self, system, taken, target):
        """Whether a target is reachable without some actions, told by a walk if that finds it."""
        if len(taken) == len(system):
            return judge.can_fit(system, target)
        found = Reach(system.without(taken), target).is_reachable
        if not found:
            self.assertFalse(is_met(system, taken, target, 2))
        return found

    def fewest(self, system, taken, target):
        """The least number of members with which a target is reachable without some actions."""
        return Reach(system.without(taken), target).fewest

    def test_values_near_right_ones(self):
        source = random.Random(8)
        for system, one, other in ((DOOR, "stay", "stay"), (ways(2), "work", "work"), (LOCK, "work", "work")):
            target, words = needs_of_both(system, one, other), judge.words_of(system)
            for names in least_repairs(system, one, other):
                every = list(judge.near(repair_certificate(system, one, other, names), words))
                for value in source.sample(every, min(len(every), 700)):
                    self.assertIs(is_repair_certificate(system, one, other, names, value), is_shown(system, target, names, value), value)
        for system, target in ((MAIL, ((), (("letter", "used", 2),))), in_steps(3), (ways(3), ((), (("x", "t", 2),)))):
            for names in least_blocks(system, target):
                every = list(judge.near(block_certificate(system, target, names), judge.words_of(system)))
                for value in source.sample(every, min(len(every), 500)):
                    self.assertIs(is_block_certificate(system, target, names, value), is_shown(system, target, names, value), value)

    def test_other_sets_than_the_one_that_is_shown(self):
        found = repair_certificate(DOOR, "stay", "stay", ("enter",))
        for names in ((), ("leave",), ("enter", "leave")):
            self.assertFalse(is_repair_certificate(DOOR, "stay", "stay", names, found))
        target = ((), (("letter", "used", 1),))
        self.assertFalse(is_block_certificate(MAIL, target, ("get",), block_certificate(MAIL, target, ("send",))))
        run = ("run", (1,), (("send", (0,)), ("get", (0,))))
        self.assertFalse(is_block_certificate(MAIL, target, ("get", "send"), (("closed", (target,)), {"get": run, "send": run})))

    def test_closed_patterns_and_runs_that_are_more_than_necessary(self):
        longer = ("run", (9,), (("enter", (8,)), ("stay", (8,)), ("leave", (8,)), ("enter", (3,)), ("enter", (4,)), ("stay", (3,))))
        for many, expected in ((2000, True), (2001, False)):
            patterns = tuple(((), (("guest", "in", number),)) for number in range(1, many + 1))
            self.assertIs(is_repair_certificate(DOOR, "stay", "stay", ("enter",), (("closed", patterns), {"enter": longer})), expected)
            patterns = tuple(((), (("letter", "used", number),)) for number in range(1, many + 1))
            runs = {"get": ("run", (3,), (("send", (2,)), ("send", (0,)), ("get", (2,))))}
            self.assertIs(is_block_certificate(MAIL, ((), (("letter", "used", 1),)), ("get",), (("closed", patterns), runs)), expected)

    def test_blocks_of_the_needs_of_an_action(self):
        # [12.2]
        for system in small_systems():
            for name in system.names:
                needs = needs_of(system, name)
                for taken in sets_of(system.names)[1:]:
                    self.assertIs(is_block(system, needs, taken), is_always(system, taken, name))
                self.assertIs(is_block(system, needs, ()), not Reach(system, needs).is_reachable)

    def test_more_taken_out(self):
        # [0.23]
        for system in small_systems():
            for one, other in itertools.combinations_with_replacement(system.names, 2):
                names = [name for name in system.names if name not in (one, other)]
                least = least_repairs(system, one, other)
                for taken in sets_of(names):
                    self.assertIs(is_repair(system, one, other, taken), any(set(part) <= set(taken) for part in least))

    def test_some_pairs_cannot_be_repaired(self):
        # [0.24]
        self.assertEqual([least_repairs(SERVE, "think", name) for name in SERVE.names], [(), (("ask",),), ()])


class ErrorTest(unittest.TestCase):
    def test_no_system(self):
        for value in without_kind(VALUES, System):
            check_error(self, InvalidSystem, {}, least_repairs, value, None, None)
            check_error(self, InvalidSystem, {}, least_blocks, value, None)
            check_error(self, InvalidSystem, {}, is_repair, value, None, None, None)
            check_error(self, InvalidSystem, {}, is_block, value, None, None)
            check_error(self, InvalidSystem, {}, repair_certificate, value, None, None, None)
            check_error(self, InvalidSystem, {}, block_certificate, value, None, None)
            check_error(self, InvalidSystem, {}, is_repair_certificate, value, None, None, None, None)
            check_error(self, InvalidSystem, {}, is_block_certificate, value, None, None, None)

    def test_no_actions(self):
        wide = ways(15)
        for value in VALUES + ("fly", "guest", DOOR["stay"]):
            for call, rest in ((least_repairs, ()), (is_repair, (None,)), (repair_certificate, (None,)), (is_repair_certificate, (None, None))):
                check_error(self, UnknownName, {"wanted": value}, call, DOOR, value, "fly", *rest)
                check_error(self, UnknownName, {"wanted": value}, call, DOOR, "stay", value, *rest)
            check_error(self, UnknownName, {"wanted": value}, least_repairs, wide, "work", value)

    def test_no_targets(self):
        wide = ways(15)
        for value in VALUES + (((), (("x", "t", 41),)), ((), (("x", "t", 0),)), ((), (("x", "t", True),)), ((("x", "t"),), ())):
            for call, rest in ((least_blocks, ()), (is_block, (None,)), (block_certificate, (None,)), (is_block_certificate, (None, None))):
                check_error(self, InvalidOperation, {}, call, wide, value, *rest)
        self.assertTrue(is_block(ways(1), ((), (("x", "t", 40),)), ("goa",)))

    def test_no_sets(self):
        used, wrong = ((), (("letter", "used", 1),)), NO_TUPLES + TUPLES[1:] + (["enter"], ("fly",), ("guest",), ("enter", "enter"), ("leave", "enter"))
        for value in wrong + (("stay",), ("enter", "stay")):
            self.assertIs(is_repair(DOOR, "stay", "stay", value), False)
            check_error(self, InvalidOperation, {}, repair_certificate, DOOR, "stay", "stay", value)
            check_error(self, InvalidOperation, {}, is_repair_certificate, DOOR, "stay", "stay", value, None)
        for value in wrong + (("send", "get"), ["get"], ("get", "get")):
            self.assertIs(is_block(MAIL, used, value), False)
            check_error(self, InvalidOperation, {}, block_certificate, MAIL, used, value)
            check_error(self, InvalidOperation, {}, is_block_certificate, MAIL, used, value, None)
        for value in (("goa", "gob", "goc", "god"), ("goa", "gob", "gob")):
            self.assertIs(is_block(ways(4), needs_of(ways(4), "work"), value), False)
            check_error(self, InvalidOperation, {}, is_block_certificate, ways(4), needs_of(ways(4), "work"), value, None)
            check_error(self, InvalidOperation, {}, is_repair_certificate, ways(4), "work", "work", value, None)

    def test_no_certificates(self):
        shown = repair_certificate(DOOR, "stay", "stay", ("enter",))
        for value in VALUES + (shown[0], shown[1], (shown[0],), (shown[0], {}), (shown[0], {"enter": None}), (shown[0], {1: shown[1]["enter"]}), list(shown), (*shown, None)):
            self.assertIs(is_repair_certificate(DOOR, "stay", "stay", ("enter",), value), False, value)
            self.assertIs(is_block_certificate(DOOR, ((), (("guest", "in", 2),)), ("enter",), value), False, value)
        self.assertIs(is_block_certificate(DOOR, ((), (("guest", "in", 2),)), ("enter",), (("closed", (((), (("guest", "in", 1),)),)), shown[1])), True)

    def test_too_many_patterns_for_blocks(self):
        system, target = crowded("action ma m s t", "action mb m t u")
        raised = []
        for taken in [(), ("xa",), ("pa", "pb", "qa"), ("mb", "ra", "xa")]:
            if slow.rounds_of(system.without(taken), target, 400) is None:
                raised.append(taken)
                check_error(self, TooMany, {"limit": 400}, is_block, system, target, taken)
                check_error(self, TooMany, {"limit": 400}, block_certificate, system, target, taken)
            else:
                self.assertIs(is_block(system, target, taken), not Reach(system.without(taken), target).is_reachable)
        self.assertTrue(() in raised and ("xa",) not in raised)
        check_error(self, TooMany, {"limit": 400}, least_blocks, system, target)
        # Without ("xa",) there are few, but without all of it but one there are too many.
        check_error(self, TooMany, {"limit": 400}, block_certificate, system, target, ("xa",))
        self.assertIs(is_block_certificate(system, target, ("xa",), None), False)
        self.assertFalse(is_block(system, target, ("ma", "ma")))

    def test_too_many_patterns_for_repairs(self):
        lines = [f"agent {agent} s t u w" for agent in "pqr"] + ["agent m t", "pool x a b c e", "action ma m t t, p w w, x e e", "action mb q w w, r w w, x e e, x e e"]
        lines += [f"action {agent}{begin} {agent} {begin} w" for agent in "pq" for begin in "stu"] + [f"action x{begin} x {begin} e" for begin in "abc"]
        system = System.from_lines(*lines, "action rs r s w")
        sums, raised = needs_of_both(system, "ma", "mb"), []
        for taken in ((), ("ps",), ("xa",), ("ps", "qs", "rs")):
            if slow.rounds_of(system.without(taken), sums, 400) is None:
                raised.append(taken)
                check_error(self, TooMany, {"limit": 400}, is_repair, system, "ma", "mb", taken)
                check_error(self, TooMany, {"limit": 400}, repair_certificate, system, "ma", "mb", taken)
            else:
                self.assertIs(is_repair(system, "ma", "mb", taken), not Reach(system.without(taken), sums).is_reachable)
            self.assertIs(is_repair_certificate(system, "ma", "mb", taken, None), False)
        self.assertTrue(() in raised and ("xa",) not in raised)
        check_error(self, TooMany, {"limit": 400}, repair_certificate, system, "ma", "mb", ("xa",))
        # The number of actions is looked at first.
        check_error(self, TooMany, {"limit": 400}, least_repairs, system, "ma", "mb")
        check_error(self, TooMany, {"limit": 10}, least_repairs, System.from_lines(*lines, "action rs r s w", "action ru r u w"), "ma", "mb")

    def test_orders_are_not_changed(self):
        found = repair_certificate(DOOR, "stay", "stay", ("enter",))
        found[1].clear()
        self.assertEqual(list(repair_certificate(DOOR, "stay", "stay", ("enter",))[1]), ["enter"])
        self.assertEqual(Order(DOOR), Order(DOOR))


def crowded(*lines):
    """A system and a target with too many patterns if all actions but those of m are there."""
    steps = ["pa p s w", "pb p t w", "pc p u w", "pd p s v", "qa q s w", "ra r s w"]
    system = System.from_lines(
        "agent m s t u", "agent p s t u v w", "agent q s t u v w", "agent r s t u v w", "pool x a b",
        *["action " + step for step in steps], "action xa x a b", *lines,
    )
    return system, ((("m", "u"), ("p", "w"), ("q", "w"), ("r", "w")), (("x", "b", 40),))


if __name__ == "__main__":
    unittest.main()
