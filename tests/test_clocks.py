"""Tests of clocks: promises 0.16, 0.20, 0.21, 0.24 and 0.25, and stage 8."""

import itertools
import unittest

from groupclocks.base.systems import Action
from groupclocks.clocks import clocks as module
from groupclocks.clocks.clocks import Clocks
from groupclocks.errors import InvalidClocks, InvalidNumber, InvalidOperation, InvalidRun, UnknownName
from groupclocks.order.groups import is_group
from groupclocks.order.pairs import Order
from groupclocks.runs.runs import Run
from tests import slow
from tests.samples import (
    ALONE, LOCK, MAIL, MIXED, NO_TUPLES, SERVE, TUPLES, TWINS, VALUES, check_equality, check_error, check_examples,
    check_fixed, check_not_iterable, without_kind,
)

EXAMPLE = """
>>> [full.stamps(post), few.stamps(post), few.first_wrong(post), full.kept(post)]
[((1,), (2,), (2,), (2,)), ((1,), (2,), (2,), (1,)), (3, 0), {('letter', 0): (2,), ('letter', 1): (2,), ('p', 0): (2,), ('q', 0): (2,)}]
>>> [full.is_told(post, 1, 3), full.is_told(post, 1, 0), few.is_told(post, 1, 3), full.group_of("get"), str(few)]
[True, False, False, None, 'clocks for 1 groups of 1 actions']
"""
POST = Run(MAIL, (2,), (("send", (0,)), ("send", (1,)), ("get", (1,)), ("get", (0,))))
SERVED, LOCKED, MAILED = Order(SERVE), Order(LOCK), Order(MAIL)
FULL, FEW = Clocks(MAILED, (("send",),)), Clocks(MAILED, (("send",),), carriers=((),))
BOTH = Clocks(MAILED, (("get",), ("send",)))


def all_clocks():
    """Several clocks, each with numbers of members and how long the runs are that are walked through."""
    for order, numbers, most in ((SERVED, (2,), 4), (LOCKED, (2,), 5), (MAILED, (2,), 4), (Order(ALONE), (), 4), (Order(MIXED), (2, 1), 3), (Order(TWINS), (3,), 2)):
        for groups in small_groups(order):
            for carriers in small_carriers(order, groups):
                yield Clocks(order, groups, carriers=carriers), numbers, most
    for seed in range(40):
        order = Order(slow.random_system(seed, 2, 2, 2, 3))
        for groups in small_groups(order)[-3:]:
            for carriers in small_carriers(order, groups)[:4]:
                yield Clocks(order, groups, carriers=carriers), (1,) * len(order.system.pools), 3


def small_groups(order):
    """The tuples of at most two groups without a common action."""
    names = order.system.names
    known = [one for many in range(1, len(names) + 1) for one in itertools.combinations(names, many) if is_group(order, one)]
    return [()] + [(one,) for one in known] + [pair for pair in itertools.permutations(known, 2) if not set(pair[0]) & set(pair[1])]


def small_carriers(order, groups):
    """No carriers, all carriers and some of those in between."""
    others = [[name for name in order.system.names if name not in group] for group in groups]
    rows = [[one for many in range(len(rest) + 1) for one in itertools.combinations(rest, many)] for rest in others]
    return [None] + list(itertools.product(*rows))[:9]


class ExampleTest(unittest.TestCase):
    def test_examples(self):
        check_examples(self, EXAMPLE, {"full": FULL, "few": FEW, "post": POST})

    def test_properties(self):
        self.assertEqual((FULL.system, FULL.groups, FULL.carriers), (MAIL, (("send",),), (("get",),)))
        self.assertEqual((FEW.groups, FEW.carriers), ((("send",),), ((),)))
        self.assertEqual((BOTH.groups, BOTH.carriers, len(BOTH), str(BOTH)), ((("get",), ("send",)), (("send",), ("get",)), 2, "clocks for 2 groups of 2 actions"))
        clocks = Clocks(LOCKED, (("take", "work"),), carriers=None)
        self.assertEqual((clocks.carriers, len(clocks), str(clocks)), ((("give",),), 1, "clocks for 1 groups of 2 actions"))

    def test_the_order_of_groups_is_kept(self):
        other = Clocks(MAILED, (("send",), ("get",)))
        self.assertEqual((other.groups, other.group_of("get"), BOTH.group_of("get"), BOTH.group_of("send")), ((("send",), ("get",)), 1, 0, 1))
        self.assertEqual(other.stamps(POST), tuple(stamp[::-1] for stamp in BOTH.stamps(POST)))
        check_equality(self, other, BOTH, False)

    def test_no_groups(self):
        clocks = Clocks(SERVED, ())
        run = Run(SERVE, (1,), (("ask", (0,)), ("reply", (0,))))
        self.assertEqual((clocks.groups, clocks.carriers, len(clocks), str(clocks)), ((), (), 0, "clocks for 0 groups of 0 actions"))
        self.assertEqual((clocks.stamps(run), clocks.right(run), clocks.first_wrong(run)), (((), ()), ((), ()), None))
        self.assertEqual((clocks.kept(run), clocks.group_of("ask")), ({("client", 0): (), ("server", 0): ()}, None))
        check_error(self, InvalidOperation, {}, clocks.is_told, run, 0, 1)
        self.assertEqual(Clocks(SERVED, (), carriers=()), clocks)

    def test_a_run_without_events(self):
        run = Run(MAIL, (1,))
        self.assertEqual((FULL.stamps(run), FULL.right(run), FULL.first_wrong(run)), ((), (), None))
        self.assertEqual(FULL.kept(run), {("letter", 0): (0,), ("p", 0): (0,), ("q", 0): (0,)})
        check_error(self, InvalidNumber, {"given": 0}, FULL.is_told, run, 0, 0)

    def test_the_first_wrong_number(self):
        clocks = Clocks(MAILED, (("get",), ("send",)), carriers=((), ()))
        self.assertEqual((clocks.stamps(POST), clocks.right(POST)), (((0, 1), (0, 2), (1, 2), (2, 1)), ((0, 1), (0, 2), (1, 2), (2, 2))))
        self.assertEqual(clocks.first_wrong(POST), (3, 1))

    def test_the_keys_of_kept_ascend(self):
        run = Run(SERVE, (12,), (("ask", (11,)), ("think", (3,))))
        kept = Clocks(SERVED, (("ask", "reply"),)).kept(run)
        self.assertEqual((list(kept), len(kept)), (sorted(kept), 13))

    def test_carriers_of_another_group(self):
        clocks = Clocks(MAILED, (("send",), ("get",)), carriers=(("get",), ()))
        self.assertEqual(clocks.stamps(POST), ((1, 0), (2, 0), (2, 1), (2, 2)))
        self.assertEqual(clocks.kept(POST)["p", 0], (2, 0))


class WalkTest(unittest.TestCase):
    def test_stamps(self):
        for clocks, numbers, most in all_clocks():
            system, groups = clocks.system, clocks.groups
            for events, _ in slow.all_runs(system, numbers, most):
                run = Run(system, numbers, events)
                stamps, kept = slow.stamps_of(system, groups, clocks.carriers, numbers, events)
                right = slow.right_stamps(system, groups, events)
                self.assertEqual((clocks.stamps(run), clocks.kept(run), clocks.right(run)), (stamps, kept, right))
                wrong = [(index, at) for index, stamp in enumerate(stamps) for at, number in enumerate(stamp) if number != right[index][at]]
                self.assertEqual(clocks.first_wrong(run), wrong[0] if wrong else None)
                # [0.21]: numbers are never greater than the right ones.
                self.assertTrue(all(number <= best for stamp, row in zip(stamps, right) for number, best in zip(stamp, row)))

    def test_what_stamps_tell(self):
        for clocks, numbers, most in all_clocks():
            does_all_carry = all(len(group) + len(names) == len(clocks.system) for group, names in zip(clocks.groups, clocks.carriers))
            for events, _ in slow.all_runs(clocks.system, numbers, min(most, 3)):
                self.check_told(clocks, Run(clocks.system, numbers, events), does_all_carry)

    def check_told(self, clocks, run, does_all_carry):
        """Check what the stamps tell of each two events."""
        pasts, stamps = slow.all_pasts(clocks.system, run.events), clocks.stamps(run)
        for one, other in itertools.product(range(len(run)), repeat=2):
            group = clocks.group_of(run[one][0])
            if group is None:
                check_error(self, InvalidOperation, {}, clocks.is_told, run, one, other)
                continue
            told = clocks.is_told(run, one, other)
            self.assertIs(told, stamps[one][group] <= stamps[other][group])
            if does_all_carry:
                # [0.20]
                self.assertIs(told, one == other or one in pasts[other])

    def test_more_carriers(self):
        # [0.21]: with more carriers, numbers are not less.
        for run in (POST, Run(MAIL, (2,), POST.events[:3])):
            self.assertTrue(all(one <= other for one, other in zip(FEW.stamps(run), FULL.stamps(run))))
        for seed in range(30):
            order = Order(slow.random_system(seed, 2, 1, 2, 3))
            for group in small_groups(order)[1:4]:
                if len(group) == 1:
                    rest = tuple(name for name in order.system.names if name not in group[0])
                    rows = [one for many in range(len(rest) + 1) for one in itertools.combinations(rest, many)]
                    self.check_more(order, group, rows)

    def check_more(self, order, group, rows):
        """Check that of two sets of carriers, the greater one gives numbers that are not less."""
        for events, _ in slow.all_runs(order.system, (2,) * len(order.system.pools), 2):
            run = Run(order.system, (2,) * len(order.system.pools), events)
            for less, more in itertools.product(rows, repeat=2):
                if set(less) <= set(more):
                    stamps = Clocks(order, group, carriers=(less,)).stamps(run), Clocks(order, group, carriers=(more,)).stamps(run)
                    self.assertTrue(all(one <= other for one, other in zip(*stamps)))

    def test_not_every_action_on_the_way_must_carry(self):
        # [0.24]: "rest" is on a way from "reply" to "think", but the numbers are right without it.
        system = SERVE.with_action(Action.from_line("rest client out out"))
        clocks = Clocks(Order(system), (("ask", "reply"),), carriers=((),))
        for events, _ in slow.all_runs(system, (2,), 5):
            self.assertIsNone(clocks.first_wrong(Run(system, (2,), events)))

    def test_a_part_of_a_group(self):
        # [0.25]: enough for a group is enough for a part of it, if the other actions of the group carry then.
        for part in (("ask",), ("reply",)):
            rest = tuple(name for name in ("ask", "reply") if name not in part)
            clocks = Clocks(SERVED, (part,), carriers=(rest,))
            for events, _ in slow.all_runs(SERVE, (2,), 5):
                self.assertIsNone(clocks.first_wrong(Run(SERVE, (2,), events)))


class ErrorTest(unittest.TestCase):
    def test_no_order(self):
        for value in without_kind(VALUES, Order):
            check_error(self, InvalidOperation, {}, Clocks, value, None)
            check_error(self, InvalidOperation, {}, Clocks, value, None, carriers=0)

    def test_no_groups(self):
        for value in NO_TUPLES + TUPLES[1:] + (
            ("ask",), (("think",),), (("ask", "think"),), (("reply", "ask"),), ((),), (("ask",), ("ask",)), (("ask", "reply"), ("reply",)), (["ask"],), [("ask",)],
            (("take",),), (("ask", "ask"),), (("ask",), ()), (("ask",), None), (("ask",), ("reply", 1)), ((("ask",),),), (("ask", True),),
        ):
            check_error(self, InvalidClocks, {}, Clocks, SERVED, value)
            check_error(self, InvalidClocks, {}, Clocks, SERVED, value, carriers=value)
        self.assertEqual(Clocks(SERVED, (("reply",), ("ask",))).groups, (("reply",), ("ask",)))

    def test_no_carriers(self):
        for value in without_kind(NO_TUPLES, type(None)) + list(TUPLES) + [
            ("think",), (("ask",),), (("ask", "think"),), (("think",), ()), ((), ("think",)), (["think"],), [("think",)], (("take",),), (("think", "think"),),
            (("think", None),), (None,), (("Think",),), (("reply",),), ("",), ((("think",),),), (True,),
        ]:
            check_error(self, InvalidClocks, {}, Clocks, SERVED, (("ask", "reply"),), carriers=value)
        self.assertEqual(Clocks(SERVED, (("ask",),), carriers=(("reply", "think"),)), Clocks(SERVED, (("ask",),)))
        check_error(self, InvalidClocks, {}, Clocks, SERVED, (("ask",),), carriers=(("think", "reply"),))
        check_error(self, InvalidClocks, {}, Clocks, SERVED, (), carriers=((),))

    def test_no_run(self):
        wrong = without_kind(VALUES, Run) + [Run(SERVE, (2,)), Run(MAIL.with_action(MAIL["get"]).without(("get",)), (2,)), POST.events]
        for value in wrong:
            for call in (FULL.stamps, FULL.kept, FULL.right, FULL.first_wrong):
                check_error(self, InvalidRun, {}, call, value)
            check_error(self, InvalidRun, {}, FULL.is_told, value, None, None)
        equal = Run(MAIL.with_action(MAIL["get"]), POST.numbers, POST.events)
        self.assertEqual(FULL.stamps(equal), FULL.stamps(POST))

    def test_no_index(self):
        for value in VALUES + (4, -1, 10 ** 60, True, False):
            if not (type(value) is int and 0 <= value < 4):
                check_error(self, InvalidNumber, {"given": value}, FULL.is_told, POST, value, None)
                check_error(self, InvalidNumber, {"given": value}, FULL.is_told, POST, 0, value)
                check_error(self, InvalidNumber, {"given": value}, FULL.is_told, POST, 2, value)
        check_error(self, InvalidOperation, {}, FULL.is_told, POST, 2, 0)
        self.assertIs(FULL.is_told(POST, 0, 2), True)

    def test_no_action(self):
        for name in VALUES + ("take", "letter", MAIL["get"], ("get",)):
            check_error(self, UnknownName, {"wanted": name}, FULL.group_of, name)

    def test_equality(self):
        check_equality(self, FULL, Clocks(MAILED, (("send",),), carriers=(("get",),)), True)
        for other in (FEW, BOTH, Clocks(MAILED, ()), Clocks(MAILED, (("get",),)), Clocks(SERVED, (("ask",),)), FULL.groups, str(FULL)) + VALUES:
            check_equality(self, FULL, other, False)
        check_equality(self, Clocks(MAILED, ()), Clocks(SERVED, ()), False)
        check_equality(self, FEW, Clocks(MAILED, (("get",),), carriers=((),)), False)

    def test_it_never_changes(self):
        check_fixed(self, FULL, "system", "groups", "carriers")
        kept = FULL.kept(POST)
        kept.clear()
        self.assertEqual((len(FULL.kept(POST)), FULL), (4, Clocks(MAILED, (("send",),))))
        check_not_iterable(self, FULL)
        check_not_iterable(self, Clocks(MAILED, ()))

    def test_its_place(self):
        self.assertEqual(Clocks.__module__, module.__name__)


if __name__ == "__main__":
    unittest.main()
