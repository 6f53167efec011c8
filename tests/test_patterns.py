"""Tests of patterns: promises 0.5, 0.11 to 0.13 and 0.24, and stage 4."""

import itertools
import random
import unittest

from groupclocks.base.systems import System
from groupclocks.cover import patterns
from groupclocks.cover.patterns import (
    does_match, is_below, is_pattern, is_target, least_patterns, needs_of, needs_of_both, pattern_ahead, start_row,
)
from groupclocks.errors import InvalidOperation, InvalidRun, InvalidSystem, UnknownName
from groupclocks.runs.runs import Run
from tests import slow
from tests.samples import ALONE, LOCK, MAIL, MIXED, SERVE, TWINS, VALUES, check_error, check_examples, without_kind

EXAMPLE = """
>>> [is_pattern(SERVE, busy), start_row(SERVE, busy), start_row(SERVE, ((), (("client", "out", 2),))), needs_of(SERVE, "reply")]
[True, None, (2,), ((('server', 'busy'),), (('client', 'in', 1),))]
>>> [pattern_ahead(SERVE, "ask", busy), pattern_ahead(SERVE, "reply", busy), needs_of_both(SERVE, "think", "ask"), needs_of_both(SERVE, "ask", "reply")]
[((('server', 'idle'),), (('client', 'out', 3),)), None, ((('server', 'idle'),), (('client', 'out', 2),)), None]
>>> [pattern_ahead(SERVE, "think", busy) == busy, least_patterns(SERVE, (busy, ((), (("client", "out", 1),))))]
[True, (((), (('client', 'out', 1),)),)]
"""
BUSY = ((("server", "busy"),), (("client", "out", 2),))
EMPTY = ((), ())
NINES = int("9" * 60)
SYSTEMS = (SERVE, LOCK, MAIL, TWINS, ALONE, MIXED)
# For each system, how many members the patterns and states that are walked through have at most.
SMALL = ((SERVE, 3), (LOCK, 3), (MAIL, 2), (TWINS, 4), (ALONE, 0), (MIXED, 2))
NO_PATTERNS = (
    (), ((),), ((), (), ()), [(), ()], ([], ()), ((), []), (None, ()), ((), None), ("", ""), (((),), ()), ((), ((),)),
    ((("server",),), ()), ((("server", "busy", 1),), ()), ((["server", "busy"],), ()), ((("server", "gone"),), ()),
    ((("busy", "server"),), ()), ((("client", "out"),), ()), ((("lock", "free"),), ()), ((("server", 1),), ()),
    ((("server", None),), ()), (("server", "busy"), ()), ((("server", "busy"), ("server", "idle")), ()),
    ((("server", "idle"), ("server", "busy")), ()), ((("server", "busy"), ("server", "busy")), ()),
    ((), (("client", "out"),)), ((), (("client", "out", 1, 1),)), ((), (["client", "out", 1],)),
    ((), (("client", "gone", 1),)), ((), (("server", "busy", 1),)), ((), (("other", "out", 1),)), ((), ("client", "out", 1)),
    ((), (("client", "out", 0),)), ((), (("client", "out", -1),)), ((), (("client", "out", True),)),
    ((), (("client", "out", False),)), ((), (("client", "out", None),)), ((), (("client", "out", "1"),)),
    ((), (("client", "out", (1,)),)), ((), (("client", "out", [1]),)), ((), (("client", "out", 10 ** 60),)),
    ((), (("client", "out", 10 ** 99),)), ((), (("client", "out", -10 ** 99),)), ((), (("client", ("out",), 1),)),
    ((), (("client", "out", 1), ("client", "in", 1))), ((), (("client", "out", 1), ("client", "out", 1))),
    ((), (("client", "out", 1), ("client", "out", 2))), ((("server", ["busy"]),), ()), ((), ((["client"], "out", 1),)),
)


def all_small():
    """Systems, and some of their small patterns."""
    for system, most in SMALL:
        yield system, list(slow.all_patterns(system, min(most, 2)))
    for seed in range(12):
        system = slow.random_system(seed, 2, 1, 2, 3)
        yield system, list(slow.all_patterns(system, 2))


class JudgeTest(unittest.TestCase):
    def test_constant(self):
        self.assertEqual(patterns.MAX_TARGET, 40)

    def test_examples(self):
        check_examples(self, EXAMPLE, dict(vars(patterns), SERVE=SERVE, busy=BUSY))

    def test_patterns(self):
        for system, value in (
            (SERVE, EMPTY), (SERVE, BUSY), (SERVE, ((), (("client", "in", 1), ("client", "out", 7)))), (ALONE, EMPTY),
            (ALONE, ((("p", "s"), ("q", "t")), ())), (MAIL, ((("q", "at"),), (("letter", "used", NINES),))),
            (MIXED, ((("p", "s"),), (("x", "a", 1), ("x", "b", 1), ("x", "c", 1), ("y", "d", 1)))), (TWINS, EMPTY),
        ):
            self.assertIs(is_pattern(system, value), True, value)

    def test_no_patterns(self):
        for value in VALUES + NO_PATTERNS:
            self.assertIs(is_pattern(SERVE, value), False, value)
            self.assertIs(is_target(SERVE, value), False, value)
            self.assertIs(is_below(SERVE, BUSY, value), False, value)
            self.assertIs(is_below(SERVE, EMPTY, value), False, value)
        for value in (((("q", "t"), ("p", "s")), ()), ((("p", "s"), ("p", "t")), ()), ((), (("p", "s", 1),))):
            self.assertIs(is_pattern(ALONE, value), False, value)
        for value in (((), (("y", "d", 1), ("x", "a", 1))), ((), (("x", "b", 1), ("x", "a", 1))), ((("x", "a"),), ())):
            self.assertIs(is_pattern(MIXED, value), False, value)

    def test_targets(self):
        for number in (1, 2, 39, 40):
            self.assertIs(is_target(SERVE, ((), (("client", "in", number), ("client", "out", 40)))), True)
        for number in (0, 41, 400, NINES, 10 ** 60, True):
            self.assertIs(is_target(SERVE, ((), (("client", "in", number), ("client", "out", 1)))), False)
            self.assertIs(is_target(SERVE, ((), (("client", "in", 1), ("client", "out", number)))), False)
        self.assertIs(is_target(SERVE, EMPTY), True)

    def test_below(self):
        for system, known in all_small():
            for one, other in itertools.product(known[:60], repeat=2):
                self.assertIs(is_below(system, one, other), slow.is_under(one, other), (one, other))
        self.assertIs(is_below(SERVE, ((), (("client", "in", NINES),)), ((), (("client", "in", NINES),))), True)
        self.assertIs(is_below(SERVE, ((), (("client", "in", NINES),)), ((), (("client", "in", NINES - 1),))), False)

    def test_matches(self):
        for system, most in SMALL:
            known = list(slow.all_patterns(system, min(most, 2)))
            for numbers in slow.all_numbers(system, most):
                for events, states in slow.all_runs(system, numbers, 2):
                    run = Run(system, numbers, events)
                    for pattern in known:
                        self.assertIs(does_match(run, pattern), slow.does_match(states, pattern))
        self.assertIs(does_match(Run(SERVE, (2000,)), ((), (("client", "out", 2000),))), True)
        self.assertIs(does_match(Run(SERVE, (2000,)), ((), (("client", "out", NINES),))), False)


class RowTest(unittest.TestCase):
    def test_rows(self):
        for system, known in all_small():
            for pattern in known:
                row = start_row(system, pattern)
                for numbers in slow.all_numbers(system, 2):
                    fits = row is not None and all(one <= many for one, many in zip(row, numbers))
                    self.assertIs(fits, slow.does_match(slow.start_of(system, numbers), pattern), pattern)

    def test_some_rows(self):
        for system, pattern, row in (
            (SERVE, EMPTY, (0,)), (ALONE, EMPTY, ()), (ALONE, ((("p", "s"),), ()), ()), (ALONE, ((("p", "t"),), ()), None),
            (MIXED, ((), (("y", "d", 3),)), (0, 3)), (MIXED, ((("p", "s"),), (("x", "a", NINES),)), (NINES, 0)),
            (MIXED, ((), (("x", "a", 1), ("x", "b", 1))), None), (MAIL, ((("p", "at"), ("q", "at")), ()), (0,)),
        ):
            self.assertEqual(start_row(system, pattern), row)


class NeedsTest(unittest.TestCase):
    def test_needs_tell_what_is_possible(self):
        for system, most in SMALL:
            for numbers in slow.all_numbers(system, most):
                events = slow.all_events(system, numbers)
                for states in slow.all_states(system, numbers):
                    possible = [event for event in events if slow.behind(system, states, event)]
                    names = {event[0] for event in possible}
                    for name in system.names:
                        self.assertIs(slow.does_match(states, needs_of(system, name)), name in names)
                    self.check_both(system, states, possible)

    def check_both(self, system, states, possible):
        """Check the sums of needs against pairs of possible events without a common participant."""
        people = [{who for who, _, _ in slow.people_of(system, event)} for event in possible]
        apart = {(one[0], other[0]) for one, mine in zip(possible, people) for other, theirs in zip(possible, people) if not mine & theirs}
        for one, other in itertools.product(system.names, repeat=2):
            both = needs_of_both(system, one, other)
            self.assertIs(both is not None and slow.does_match(states, both), (one, other) in apart)

    def test_some_needs(self):
        self.assertEqual(needs_of(TWINS, "both"), ((), (("x", "a", 2),)))
        self.assertEqual(needs_of(TWINS, "three"), ((), (("x", "a", 2), ("x", "b", 1))))
        self.assertEqual(needs_of(ALONE, "both"), ((("p", "t"), ("q", "t")), ()))
        self.assertEqual(needs_of_both(TWINS, "three", "three"), ((), (("x", "a", 4), ("x", "b", 2))))
        self.assertEqual(needs_of_both(ALONE, "left", "right"), ((("p", "s"), ("q", "s")), ()))
        for one, other in (("left", "left"), ("left", "both"), ("both", "right"), ("both", "both")):
            self.assertIsNone(needs_of_both(ALONE, one, other))


class AheadTest(unittest.TestCase):
    def test_each_match_lets_an_event_lead_to_a_match(self):
        for system, most in SMALL:
            known = list(slow.all_patterns(system, min(most, 2)))
            known = known if len(known) < 80 else random.Random(7).sample(known, 80)
            for name, pattern in itertools.product(system.names, known):
                found = pattern_ahead(system, name, pattern)
                self.assertEqual(found, slow.ahead_of(system, name, pattern))
                for numbers in slow.all_numbers(system, most):
                    self.check_ahead(system, numbers, name, pattern, found)

    def check_ahead(self, system, numbers, name, pattern, found):
        """Check for all states that they match the found pattern exactly if an event leads to a match of the other one."""
        events = [event for event in slow.all_events(system, numbers) if event[0] == name]
        for states in slow.all_states(system, numbers):
            ends = [slow.behind(system, states, event) for event in events]
            leads = any(end is not None and slow.does_match(end, pattern) for end in ends)
            self.assertIs(found is not None and slow.does_match(states, found), leads)

    def test_moves_that_stay_in_their_state(self):
        self.assertEqual(pattern_ahead(SERVE, "think", EMPTY), ((), (("client", "out", 1),)))
        self.assertEqual(pattern_ahead(SERVE, "think", ((), (("client", "in", 2),))), ((), (("client", "in", 2), ("client", "out", 1))))
        self.assertEqual(pattern_ahead(TWINS, "three", ((), (("x", "a", 1),))), ((), (("x", "a", 2), ("x", "b", 1))))

    def test_many_digits(self):
        self.assertEqual(pattern_ahead(SERVE, "ask", ((), (("client", "in", NINES),))), ((("server", "idle"),), (("client", "in", NINES - 1), ("client", "out", 1))))
        self.assertEqual(pattern_ahead(SERVE, "ask", ((), (("client", "out", NINES),))), ((("server", "idle"),), (("client", "out", NINES + 1),)))


class LeastTest(unittest.TestCase):
    def test_least(self):
        source = random.Random(3)
        for system, known in all_small():
            for _ in range(40):
                some = tuple(source.choice(known) for _ in range(source.randint(0, 7)))
                self.assertEqual(least_patterns(system, some), slow.least_of(some))
        self.assertEqual(least_patterns(SERVE, ()), ())
        self.assertEqual(least_patterns(SERVE, (BUSY, BUSY)), (BUSY,))
        self.assertEqual(least_patterns(SERVE, (BUSY, EMPTY)), (EMPTY,))

    def test_many_digits(self):
        some = (((), (("client", "in", NINES),)), ((), (("client", "in", NINES - 1),)), ((), (("client", "in", 1), ("client", "out", NINES))))
        self.assertEqual(least_patterns(SERVE, some), some[2:] + some[1:2])

    def test_no_patterns(self):
        for value in without_kind(VALUES, tuple) + [[BUSY], BUSY, (BUSY, None), (None, BUSY), (BUSY, [BUSY]), (BUSY, ())]:
            check_error(self, InvalidOperation, {}, least_patterns, SERVE, value)
        for value in NO_PATTERNS:
            check_error(self, InvalidOperation, {}, least_patterns, SERVE, (BUSY, value))


class ErrorTest(unittest.TestCase):
    def test_no_system(self):
        for value in without_kind(VALUES, System):
            for judge in (is_pattern, is_target, start_row, needs_of, least_patterns):
                check_error(self, InvalidSystem, {}, judge, value, None)
            for judge in (is_below, needs_of_both, pattern_ahead):
                check_error(self, InvalidSystem, {}, judge, value, None, None)

    def test_no_run(self):
        for value in without_kind(VALUES, Run):
            check_error(self, InvalidRun, {}, does_match, value, BUSY)
            check_error(self, InvalidRun, {}, does_match, value, None)

    def test_no_pattern(self):
        for value in VALUES + NO_PATTERNS:
            check_error(self, InvalidOperation, {}, does_match, Run(SERVE, (1,)), value)
            check_error(self, InvalidOperation, {}, start_row, SERVE, value)
            check_error(self, InvalidOperation, {}, is_below, SERVE, value, None)
            check_error(self, InvalidOperation, {}, is_below, SERVE, value, BUSY)
            check_error(self, InvalidOperation, {}, pattern_ahead, SERVE, "ask", value)
        check_error(self, InvalidOperation, {}, does_match, Run(LOCK, (1,)), BUSY)

    def test_no_action(self):
        for name in VALUES + ("take", "server", SERVE["ask"], ("ask",)):
            check_error(self, UnknownName, {"wanted": name}, needs_of, SERVE, name)
            check_error(self, UnknownName, {"wanted": name}, needs_of_both, SERVE, name, None)
            check_error(self, UnknownName, {"wanted": name}, needs_of_both, SERVE, "ask", name)
            check_error(self, UnknownName, {"wanted": name}, pattern_ahead, SERVE, name, None)
            check_error(self, UnknownName, {"wanted": name}, pattern_ahead, SERVE, name, BUSY)


if __name__ == "__main__":
    unittest.main()
