"""Tests of runs as they are made and asked: promises 0.4, 0.9, 0.10 and 0.18 to 0.24, and stage 3."""

import itertools
import unittest

from groupclocks.base.systems import System
from groupclocks.errors import InvalidNumber, InvalidOperation, InvalidRun, InvalidSystem, NotPossible, TooMany
from groupclocks.runs import runs
from groupclocks.runs.runs import Run, is_event, is_numbers
from tests import slow
from tests.samples import (
    ALONE, LOCK, MAIL, MIXED, NO_TUPLES, SERVE, TUPLES, TWINS, VALUES, check_equality, check_error, check_examples,
    check_fixed, check_not_iterable, without_kind,
)

EXAMPLE = """
>>> [run.past(3), run.is_concurrent(1, 2), run.is_before(1, 3), run.participants(3), run.finals]
[(0, 1, 2), True, True, (('client', 1), ('server', 0)), {('client', 0): 'out', ('client', 1): 'in', ('client', 2): 'out', ('server', 0): 'busy'}]
>>> [list(run.each_possible()), list(run.each_order()), str(run.part((0, 2))), run.is_same(Run(SERVE, (3,), (run[1], run[0], run[2], run[3])))]
[[('reply', (1,)), ('think', (0,)), ('think', (2,))], [(0, 1, 2, 3), (0, 2, 1, 3), (1, 0, 2, 3)], 'run of 2 events, 3 members', True]
"""
EVENTS = (("ask", (0,)), ("think", (1,)), ("reply", (0,)), ("ask", (1,)))
RUN = Run(SERVE, (3,), EVENTS)
# For each system, numbers and how many events at most the walks below go.
WALKS = (
    (SERVE, (2,), 4), (LOCK, (2,), 4), (MAIL, (2,), 4), (MAIL, (0,), 2), (TWINS, (3,), 3), (TWINS, (4,), 2),
    (ALONE, (), 4), (MIXED, (2, 1), 3), (MIXED, (3, 1), 2),
)
SEEDS = range(30)
NO_EVENTS = (
    (), ("ask",), ("ask", (0,), 0), ("ask", ()), ("ask", (0, 1)), ("ask", (True,)), ("ask", (False,)), ("ask", (-1,)),
    ("ask", (2000,)), ("ask", (10 ** 60,)), ("ask", (10 ** 99,)), ("ask", (-10 ** 99,)), ("ask", [0]), ("ask", 0),
    ("ask", None), ("ask", (None,)), ("ask", ("0",)), ("ask", ((0,),)), ("take", (0,)), ("Ask", (0,)), (None, (0,)),
    (SERVE["ask"], (0,)), ("ask", {0: 0}), ["ask", (0,)], ("server", (0,)), (("ask",), (0,)), ("ask", "0"),
)


def all_small_runs():
    """Systems, numbers, events and states at the end, of all runs of some walks."""
    for system, numbers, most in WALKS:
        for events, states in slow.all_runs(system, numbers, most):
            yield system, numbers, events, states
    for seed in SEEDS:
        system = slow.random_system(seed, 2, 2, 2, 3)
        for numbers in slow.all_numbers(system, 2):
            for events, states in slow.all_runs(system, numbers, 2):
                yield system, numbers, events, states


class JudgeTest(unittest.TestCase):
    def test_constants(self):
        self.assertEqual((runs.MAX_MEMBERS, runs.MAX_EVENTS), (2000, 2000))

    def test_events(self):
        for system, value in (
            (SERVE, ("ask", (0,))), (SERVE, ("think", (1999,))), (MAIL, ("send", (7,))), (ALONE, ("both", ())),
            (TWINS, ("both", (0, 1))), (TWINS, ("both", (0, 1999))), (TWINS, ("swap", (1, 0))), (TWINS, ("swap", (0, 1))),
            (TWINS, ("three", (0, 2, 1))), (MIXED, ("join", (0, 1, 0))), (MIXED, ("join", (0, 1, 1))),
        ):
            self.assertIs(is_event(system, value), True, value)

    def test_no_events(self):
        for value in VALUES + NO_EVENTS:
            self.assertIs(is_event(SERVE, value), False, value)
        for value in (
            ("both", (1, 0)), ("both", (1, 1)), ("both", (0,)), ("both", (0, 1, 2)), ("swap", (0, 0)),
            ("three", (1, 0, 2)), ("three", (0, 1, 1)), ("three", (0, 1, 0)), ("three", (0, 0, 1)),
        ):
            self.assertIs(is_event(TWINS, value), False, value)
        self.assertIs(is_event(ALONE, ("both", (0,))), False)
        self.assertIs(is_event(MIXED, ("join", (1, 0, 0))), False)

    def test_each_event_with_few_members(self):
        for system, numbers, _ in WALKS:
            known = slow.all_events(system, numbers)
            for name in system.names:
                for many in range(4):
                    for members in itertools.product(range(3), repeat=many):
                        below = [numbers[sorted(system.pools).index(move[0])] for move in slow.members_of(system, system[name])]
                        if len(below) != many or all(one < most for one, most in zip(members, below)):
                            self.assertIs(is_event(system, (name, members)), (name, members) in known)

    def test_numbers(self):
        for system, value in ((SERVE, (0,)), (SERVE, (1,)), (SERVE, (1999,)), (SERVE, (2000,)), (ALONE, ()), (MIXED, (2000, 0))):
            self.assertIs(is_numbers(system, value), True, value)
        for value in NO_TUPLES + ((), (2001,), (-1,), (True,), (False,), (None,), (1, 1), ([1],), (10 ** 59,), (10 ** 99,), ("1",)):
            self.assertIs(is_numbers(SERVE, value), False, value)
        for value in ((0,), (1,), (True,)):
            self.assertIs(is_numbers(ALONE, value), False)
        for value in ((1,), (1, 1, 1), (1, 2001), (2001, 1), (1, True)):
            self.assertIs(is_numbers(MIXED, value), False)

    def test_no_system(self):
        for value in without_kind(VALUES, System):
            for judge in (is_event, is_numbers):
                check_error(self, InvalidSystem, {}, judge, value, None)
            check_error(self, InvalidSystem, {}, Run, value, None, None)


class MadeTest(unittest.TestCase):
    def test_examples(self):
        check_examples(self, EXAMPLE, {"Run": Run, "SERVE": SERVE, "run": RUN})

    def test_properties(self):
        self.assertEqual((RUN.system, RUN.numbers, RUN.events), (SERVE, (3,), EVENTS))
        self.assertEqual([RUN[index] for index in range(4)], list(EVENTS))
        self.assertEqual((len(RUN), str(RUN)), (4, "run of 4 events, 3 members"))
        self.assertEqual((Run(SERVE, (2,)).events, Run(SERVE, (2,)).finals), ((), slow.start_of(SERVE, (2,))))
        self.assertEqual(str(Run(MIXED, (2, 5), (("rest", (4,)),))), "run of 1 events, 7 members")
        self.assertEqual(str(Run(ALONE, ())), "run of 0 events, 0 members")

    def test_the_keys_of_finals_ascend(self):
        for system, numbers in ((SERVE, (12,)), (MIXED, (11, 3)), (ALONE, ()), (MAIL, (0,))):
            finals = Run(system, numbers).finals
            self.assertEqual(list(finals), sorted(finals))
        run = Run(SERVE, (2,)) + ("think", (1,)) + ("ask", (0,))
        self.assertEqual(list(run.finals), sorted(run.finals))

    def test_numbers_at_their_limits(self):
        for number in (0, 1, 1999, 2000):
            self.assertEqual(len(Run(SERVE, (number,)).finals), number + 1)
        check_error(self, InvalidRun, {}, Run, SERVE, (2001,))
        run = Run(SERVE, (2000,), (("ask", (1999,)), ("think", (0,))))
        self.assertEqual((run.finals["client", 1999], run.finals["client", 1998]), ("in", "out"))
        check_error(self, InvalidRun, {}, Run, SERVE, (1999,), (("ask", (1999,)),))
        check_error(self, InvalidRun, {}, Run, SERVE, (0,), (("ask", (0,)),))

    def test_many_events(self):
        think, ask = ("think", (0,)), ("ask", (0,))
        run = Run(SERVE, (1,), (think,) * 2000)
        self.assertEqual((len(run), run.past(1999)), (2000, tuple(range(1999))))
        self.assertEqual(list(run.each_order()), [tuple(range(2000))])
        check_error(self, TooMany, {"limit": 2000}, Run, SERVE, (1,), (think,) * 2001)
        check_error(self, TooMany, {"limit": 2000}, Run, SERVE, (1,), (ask,) * 2001)
        check_error(self, InvalidRun, {}, Run, SERVE, (1,), (think,) * 2000 + (("think", (1,)),))
        check_error(self, NotPossible, {"at": 1999}, Run, SERVE, (1,), (think,) * 1999 + (("reply", (0,)),))

    def test_numbers_that_are_none(self):
        for value in NO_TUPLES + ((), (1, 1), (2001,), (-1,), (True,), (None,), (10 ** 60,)):
            check_error(self, InvalidRun, {}, Run, SERVE, value)
            check_error(self, InvalidRun, {}, Run, SERVE, value, None)

    def test_events_that_are_none(self):
        for value in NO_TUPLES:
            check_error(self, InvalidRun, {}, Run, SERVE, (2,), value)
        for value in VALUES + NO_EVENTS + (("ask", (2,)),):
            check_error(self, InvalidRun, {}, Run, SERVE, (2,), (value,))
            check_error(self, InvalidRun, {}, Run, SERVE, (2,), (("reply", (0,)), value))
        check_error(self, InvalidRun, {}, Run, SERVE, (2,), list(EVENTS))

    def test_the_first_event_that_is_not_possible(self):
        for index, events in (
            (0, (("reply", (0,)),)), (1, (("ask", (0,)), ("ask", (1,)))), (2, (("ask", (0,)), ("think", (1,)), ("think", (0,)), ("ask", (0,)))),
            (3, (("ask", (0,)), ("think", (1,)), ("reply", (0,)), ("reply", (1,)), ("ask", (0,)), ("reply", (1,)))),
        ):
            check_error(self, NotPossible, {"at": index}, Run, SERVE, (2,), events)

    def test_walks(self):
        for system, numbers, most in WALKS[:6]:
            events = slow.all_events(system, numbers)
            for chosen in itertools.product(events, repeat=min(most, 3)):
                ends = [slow.at_end(system, numbers, chosen[:many]) for many in range(1, len(chosen) + 1)]
                if ends[-1] is None:
                    check_error(self, NotPossible, {"at": ends.index(None)}, Run, system, numbers, chosen)
                else:
                    self.assertEqual(Run(system, numbers, chosen).finals, ends[-1])

    def test_equality(self):
        check_equality(self, RUN, Run(SERVE, (3,), EVENTS), True)
        check_equality(self, RUN, Run(SERVE, (4,), EVENTS), False)
        check_equality(self, RUN, Run(SERVE, (3,), EVENTS[:3]), False)
        check_equality(self, RUN, Run(SERVE, (3,), (EVENTS[1], EVENTS[0], *EVENTS[2:])), False)
        check_equality(self, Run(SERVE, (3,)), Run(LOCK, (3,)), False)
        check_equality(self, RUN, Run(SERVE.with_action(LOCK["work"]), (3,), EVENTS), False)
        for value in VALUES + (EVENTS, str(RUN), RUN.finals):
            check_equality(self, RUN, value, False)

    def test_it_never_changes(self):
        check_fixed(self, RUN, "system", "numbers", "events", "finals")
        with self.assertRaises(TypeError):
            RUN[0] = EVENTS[0]
        finals = RUN.finals
        finals.clear()
        RUN.finals["client", 0] = "in"
        self.assertEqual(RUN.finals, slow.at_end(SERVE, (3,), EVENTS))
        self.assertEqual(RUN, Run(SERVE, (3,), EVENTS))

    def test_it_is_not_iterable(self):
        check_not_iterable(self, RUN)
        check_not_iterable(self, Run(SERVE, (3,)))


class AskedTest(unittest.TestCase):
    def test_all_small_runs(self):
        for system, numbers, events, states in all_small_runs():
            run, pasts = Run(system, numbers, events), slow.all_pasts(system, events)
            self.assertEqual((run.finals, run.events, run.numbers), (states, events, numbers))
            possible = [event for event in slow.all_events(system, numbers) if slow.behind(system, states, event)]
            self.assertEqual(list(run.each_possible()), possible)
            for index, event in enumerate(events):
                self.assertEqual(run.past(index), tuple(sorted(pasts[index])))
                self.assertEqual(run.participants(index), tuple(sorted(who for who, _, _ in slow.people_of(system, event))))
                for other in range(len(events)):
                    self.assertIs(run.is_before(other, index), other in pasts[index])
                    self.assertIs(run.is_concurrent(other, index), slow.is_concurrent(pasts, other, index))

    def test_no_index(self):
        for value in VALUES + (4, 5, -1, -4, 10 ** 60, True, False, slice(0, 1)):
            if isinstance(value, int) and not isinstance(value, bool) and 0 <= value < 4:
                continue
            for call in (RUN.participants, RUN.past, RUN.__getitem__):
                check_error(self, InvalidNumber, {"given": value}, call, value)
            for call in (RUN.is_before, RUN.is_concurrent):
                check_error(self, InvalidNumber, {"given": value}, call, value, 0)
                check_error(self, InvalidNumber, {"given": value}, call, 0, value)
                check_error(self, InvalidNumber, {"given": value}, call, value, -7)
            check_error(self, InvalidNumber, {"given": value}, Run(SERVE, (1,)).past, value)
        check_error(self, InvalidNumber, {"given": 0}, Run(SERVE, (1,)).past, 0)

    def test_an_event_and_itself(self):
        for index in range(4):
            self.assertIs(RUN.is_before(index, index), False)
            self.assertIs(RUN.is_concurrent(index, index), False)

    def test_each_possible_in_order(self):
        run = Run(SERVE, (12,), (("ask", (3,)),))
        self.assertEqual(list(run.each_possible()), [("reply", (3,))] + [("think", (k,)) for k in range(12) if k != 3])
        found = list(Run(MIXED, (4, 3)).each_possible())
        self.assertEqual(found, sorted(found))
        self.assertEqual(len(found), 6 * 3 + 3)

    def test_each_possible_one_by_one(self):
        run = Run(TWINS, (2000,), (("both", (0, 1)),))
        first, second = run.each_possible(), run.each_possible()
        self.assertEqual([next(first), next(first), next(second), next(first)],
                         [("both", (2, 3)), ("both", (2, 4)), ("both", (2, 3)), ("both", (2, 5))])
        self.assertEqual(list(itertools.islice(Run(MIXED, (2000, 2000)).each_possible(), 2)), [("join", (0, 1, 0)), ("join", (0, 1, 1))])

    def test_each_possible_has_none(self):
        self.assertEqual(list(Run(MAIL, (0,)).each_possible()), [])
        self.assertEqual(list(Run(TWINS, (1,)).each_possible()), [])


class GrownTest(unittest.TestCase):
    def test_one_more_event(self):
        run = Run(SERVE, (3,))
        for many, event in enumerate(EVENTS):
            grown = run + event
            self.assertEqual((grown, grown.events, len(run)), (Run(SERVE, (3,), EVENTS[:many + 1]), EVENTS[:many + 1], many))
            run = grown
        self.assertEqual((run, run.finals, [run.past(at) for at in range(4)]), (RUN, RUN.finals, [RUN.past(at) for at in range(4)]))

    def test_all_small_runs(self):
        for system, numbers, events, states in all_small_runs():
            if events:
                run = Run(system, numbers, events[:-1]) + events[-1]
                whole = Run(system, numbers, events)
                self.assertEqual((run, run.finals, run.past(len(events) - 1)), (whole, states, whole.past(len(events) - 1)))
                self.assertEqual(list(run.each_possible()), list(whole.each_possible()))

    def test_no_event(self):
        for value in VALUES + NO_EVENTS + (("ask", (3,)),):
            check_error(self, InvalidOperation, {}, lambda: RUN + value)
        full = Run(SERVE, (1,), (("think", (0,)),) * 2000)
        check_error(self, InvalidOperation, {}, lambda: full + ("ask", (1,)))
        check_error(self, TooMany, {"limit": 2000}, lambda: full + ("reply", (0,)))
        check_error(self, TooMany, {"limit": 2000}, lambda: full + ("think", (0,)))
        self.assertEqual(len(Run(SERVE, (1,), (("think", (0,)),) * 1999) + ("ask", (0,))), 2000)

    def test_not_possible(self):
        check_error(self, NotPossible, {"at": 4}, lambda: RUN + ("ask", (0,)))
        check_error(self, NotPossible, {"at": 0}, lambda: Run(SERVE, (1,)) + ("reply", (0,)))
        self.assertEqual(RUN, Run(SERVE, (3,), EVENTS))

    def test_in_place(self):
        run = same = Run(SERVE, (3,))
        run += EVENTS[0]
        self.assertEqual((len(run), len(same)), (1, 0))


class PartTest(unittest.TestCase):
    def test_all_small_runs(self):
        for system, numbers, events, _ in all_small_runs():
            run, pasts = Run(system, numbers, events), slow.all_pasts(system, events)
            for many in range(len(events) + 1):
                for chosen in itertools.combinations(range(len(events)), many):
                    if all(pasts[index] <= set(chosen) for index in chosen):
                        self.assertEqual(run.part(chosen), Run(system, numbers, tuple(events[index] for index in chosen)))
                    else:
                        check_error(self, InvalidOperation, {}, run.part, chosen)

    def test_no_part(self):
        for value in NO_TUPLES + TUPLES[1:] + ([0], (1, 0), (0, 0), (0, True), (False,), (True,), (-1,), (4,), (0, 4), (0, -1), (10 ** 99,), (0, [1]), (3,), (0, 2, 3), "0"):
            if value != (1,):
                check_error(self, InvalidOperation, {}, RUN.part, value)
        self.assertEqual((RUN.part(()), RUN.part((0, 1, 2, 3)), RUN.part((1,)).events), (Run(SERVE, (3,)), RUN, (EVENTS[1],)))

    def test_widened(self):
        self.assertEqual(RUN.widened((3,)), RUN)
        self.assertEqual((RUN.widened((2000,)).events, RUN.widened((5,)).numbers), (EVENTS, (5,)))
        self.assertEqual(Run(ALONE, ()).widened(()), Run(ALONE, ()))
        for value in NO_TUPLES + ((), (2001,), (3, 3), (-1,), (True,), (10 ** 60,)):
            check_error(self, InvalidRun, {}, RUN.widened, value)
        for value in ((2,), (0,)):
            check_error(self, InvalidOperation, {}, RUN.widened, value)
        run = Run(MIXED, (2, 2))
        for value in ((1, 3), (3, 1), (1, 1)):
            check_error(self, InvalidOperation, {}, run.widened, value)
        self.assertEqual(run.widened((2, 3)).numbers, (2, 3))


class OrdersTest(unittest.TestCase):
    def test_all_small_runs(self):
        for system, numbers, events, states in all_small_runs():
            run, pasts = Run(system, numbers, events), slow.all_pasts(system, events)
            orders = []
            for order in itertools.permutations(range(len(events))):
                moved = tuple(events[index] for index in order)
                if slow.at_end(system, numbers, moved) is not None:
                    new = slow.all_pasts(system, moved)
                    if all({order[at] for at in new[place]} == pasts[index] for place, index in enumerate(order)):
                        orders.append(order)
                        self.assertEqual(slow.at_end(system, numbers, moved), states)
            self.assertEqual(list(run.each_order()), orders)

    def test_the_same_runs_are_those_of_the_orders(self):
        for system, numbers, most in WALKS[:7]:
            by_names = {}
            for events, _ in slow.all_runs(system, numbers, min(most, 3)):
                by_names.setdefault(tuple(sorted(events)), []).append(events)
            for alike in by_names.values():
                for one in alike:
                    run = Run(system, numbers, one)
                    arisen = {tuple(one[index] for index in order) for order in run.each_order()}
                    for other in alike:
                        self.assertIs(run.is_same(Run(system, numbers, other)), other in arisen)

    def test_without_events(self):
        self.assertEqual(list(Run(SERVE, (3,)).each_order()), [()])

    def test_one_by_one(self):
        run = Run(SERVE, (2000,), tuple(("think", (number,)) for number in range(2000)))
        first, second = run.each_order(), run.each_order()
        plain = tuple(range(2000))
        self.assertEqual((next(first), next(first)), (plain, plain[:-2] + (1999, 1998)))
        self.assertEqual((next(second), next(first)[-3:]), (plain, (1998, 1997, 1999)))

    def test_is_same(self):
        self.assertIs(RUN.is_same(RUN), True)
        self.assertIs(RUN.is_same(Run(SERVE, (3,), (EVENTS[0], EVENTS[2], EVENTS[1], EVENTS[3]))), True)
        self.assertIs(RUN.is_same(RUN.widened((4,))), False)
        self.assertIs(RUN.is_same(RUN.part((0, 1, 2))), False)
        self.assertIs(Run(SERVE, (3,)).is_same(Run(LOCK, (3,))), False)
        self.assertIs(Run(SERVE, (3,)).is_same(Run(SERVE, (3,))), True)
        twice = Run(SERVE, (2,), (("ask", (0,)), ("reply", (0,)), ("ask", (1,)), ("reply", (1,))))
        self.assertIs(twice.is_same(Run(SERVE, (2,), twice.events[2:] + twice.events[:2])), False)
        for value in VALUES + (EVENTS,):
            self.assertIs(RUN.is_same(value), False)


if __name__ == "__main__":
    unittest.main()
