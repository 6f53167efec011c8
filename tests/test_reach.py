"""Tests of what is reachable: promises 0.6, 0.14, 0.18, 0.23 and 5.1, and the class of stage 5."""

import itertools
import random
import unittest

from groupclocks.base.systems import System
from groupclocks.cover import reach
from groupclocks.cover.patterns import MAX_TARGET
from groupclocks.cover.reach import Reach, is_certificate, is_closed
from groupclocks.errors import InvalidOperation, InvalidRun, InvalidSystem, TooMany
from groupclocks.runs.runs import Run
from tests import slow
from tests.samples import (
    ALONE, LOCK, MAIL, MIXED, NO_TUPLES, SERVE, TWINS, VALUES, check_equality, check_error, check_examples, check_fixed,
    check_not_iterable, without_kind,
)
from tests.test_patterns import NO_PATTERNS

EXAMPLE = """
>>> [Reach(LOCK, two_in).closed, Reach(SERVE, two_in).fewest, str(Reach(LOCK, two_in))]
[(((), (('client', 'in', 2),)), ((('lock', 'free'),), (('client', 'in', 1), ('client', 'out', 1)))), None, 'reach of 2 patterns in 1 rounds']
>>> is_certificate(LOCK, two_in, ("closed", (((), (("client", "in", 2),)), ((("lock", "free"),), (("client", "in", 1),)))))
True
>>> [used.rows, used.steps, len(used.run().events), used.certificate()[1], used.is_reachable, ((), (("letter", "used", 3),)) in used]
[((2,),), 4, 4, (2,), True, True]
"""
TWO_IN = ((), (("client", "in", 2),))
USED = ((), (("letter", "used", 2),))
EMPTY = ((), ())
# Targets (x b n, y b m, p t) of this system have (n + 1)(m + 1) + (n - 1)m patterns in their last round.
SPREAD = System.from_lines("agent p s t", "pool x a b c", "pool y a b c", "action both p s t, x c b, x c b, y c b", "action left x a b", "action right y a b")


def spread_target(left, right):
    return ((("p", "t"),), (("x", "b", left), ("y", "b", right)))


def peak_system():
    """A system with targets whose rounds grow and then shrink: what is found late is below much of what is found early."""
    turns = [f"action {name}{one} {name} {other} {one}" for name in "qr" for one, other in zip("abcde", "bcdef")]
    return System.from_lines(
        "agent p u w t", "agent q a b c d e f", "agent r a b c d e f", "pool x a b", "pool y a b", "pool z a b",
        "action fast p u t, q a a, r a a", *turns, "action x x a b", "action y y a b", "action z z a b",
        "action slow p w t, x b a, x b a, x b a", "action slower p u w, y b a, y b a, y b a",
    )


def counter(many):
    """A system whose agents count, and the target that they reach after so many states of affairs, at most 432."""
    ups = [f"action p{one} p {one} {other}" for one, other in zip("abcde", "bcdef")]
    ups += [f"action q{one} p f a, q {one} {other}" for one, other in zip("abcde", "bcdef")]
    ups += [f"action r{one} p f a, q f a, r {one} {other}" for one, other in zip("abcde", "bcdef")]
    agents = ["agent p a b c d e f", "agent q a b c d e f", "agent r a b c d e f", "agent s a b"]
    at = many - 1
    digits = [("p", "abcdef"[at % 6]), ("q", "abcdef"[at // 6 % 6]), ("r", "abcdef"[at // 36 % 6]), ("s", "ab"[at // 216])]
    return System.from_lines(*agents, *ups, "action s p f a, q f a, r f a, s a b"), (tuple(digits), ())


def small_questions():
    """Systems and small targets."""
    for system in (SERVE, LOCK, MAIL, TWINS, ALONE, MIXED):
        known = list(slow.all_patterns(system, 3))
        yield system, random.Random(5).sample(known, min(12, len(known)))
    for seed in range(40):
        system = slow.random_system(seed, 2, 2, 2, 3)
        known = list(slow.all_patterns(system, 2))
        yield system, random.Random(seed).sample(known, min(4, len(known)))


class ExampleTest(unittest.TestCase):
    def test_constants(self):
        self.assertEqual((reach.MAX_ROUND, reach.MAX_CLOSED), (400, 2000))

    def test_examples(self):
        check_examples(self, EXAMPLE, {**vars(reach), "SERVE": SERVE, "LOCK": LOCK, "two_in": TWO_IN, "used": Reach(MAIL, USED)})

    def test_properties(self):
        made = Reach(LOCK, TWO_IN)
        other = ((("lock", "free"),), (("client", "in", 1), ("client", "out", 1)))
        self.assertEqual((made.system, made.target, made.rounds), (LOCK, TWO_IN, ((TWO_IN,), (TWO_IN, other))))
        self.assertEqual((made.closed, made.rows, made.fewest, made.steps), ((TWO_IN, other), (), None, None))
        self.assertEqual((made.is_reachable, len(made)), (False, 2))
        self.assertEqual(made.certificate(), ("closed", (TWO_IN, other)))

    def test_a_target_that_the_start_matches(self):
        for system, target, row in ((SERVE, EMPTY, (0,)), (SERVE, ((("server", "idle"),), (("client", "out", 40),)), (40,)), (ALONE, EMPTY, ()), (MIXED, ((), (("y", "d", 2),)), (0, 2))):
            made = Reach(system, target)
            self.assertEqual((made.rows, made.fewest, made.steps, made.is_reachable), ((row,), sum(row), 0, True))
            self.assertEqual(made.run(), Run(system, row))
            self.assertEqual(made.certificate(), ("run", row, ()))

    def test_one_round(self):
        made = Reach(SERVE, EMPTY)
        self.assertEqual((made.rounds, str(made), len(made)), (((EMPTY,),), "reach of 1 patterns in 0 rounds", 1))


class WalkTest(unittest.TestCase):
    def test_rounds(self):
        for system, targets in small_questions():
            for target in targets:
                self.assertEqual(Reach(system, target).rounds, slow.rounds_of(system, target), target)

    def test_what_rounds_mean(self):
        for system, targets in small_questions():
            for target in targets[:3]:
                made = Reach(system, target)
                for numbers in slow.all_numbers(system, 2):
                    self.check_distances(made, slow.distances(system, numbers, target), numbers)

    def check_distances(self, made, far, numbers):
        """Check that from all states just so many events lead to a match as the rounds tell."""
        for states in slow.all_states(made.system, numbers):
            found = [at for at, patterns in enumerate(made.rounds) if any(slow.does_match(states, one) for one in patterns)]
            self.assertEqual(found[0] if found else None, far.get(slow.frozen(states)))
            self.assertEqual(found, list(range(found[0], len(made.rounds))) if found else [])

    def test_rows(self):
        for system, targets in small_questions():
            for target in targets[:4]:
                made = Reach(system, target)
                steps = {numbers: slow.distances(system, numbers, target).get(slow.frozen(slow.start_of(system, numbers)))
                         for numbers in slow.all_numbers(system, 3)}
                for numbers, far in steps.items():
                    self.assertIs(any(self.is_under(row, numbers) for row in made.rows), far is not None)
                    if far is None:
                        check_error(self, InvalidOperation, {}, made.run, numbers=numbers)
                    else:
                        self.check_run(made, made.run(numbers=numbers), numbers)
                        self.assertLessEqual(made.steps, far)
                if made.fewest is not None and made.fewest <= 3:
                    self.assertEqual(made.fewest, min(sum(numbers) for numbers, far in steps.items() if far is not None))

    def is_under(self, row, numbers):
        return all(one <= many for one, many in zip(row, numbers))

    def check_run(self, made, run, numbers):
        """Check that the run matches the target with these numbers."""
        self.assertEqual((run.system, run.numbers), (made.system, numbers))
        self.assertTrue(slow.does_match(slow.at_end(made.system, numbers, run.events), made.target))
        self.assertLessEqual(len(run.events), 400)

    def test_rows_ascend_and_are_least(self):
        for system, targets in small_questions():
            for target in targets:
                rows = Reach(system, target).rows
                self.assertEqual(list(rows), sorted(set(rows)))
                self.assertFalse([row for row in rows for other in rows if row != other and self.is_under(other, row)])

    def test_least_steps(self):
        for system, targets in small_questions():
            for target in targets[:4]:
                made = Reach(system, target)
                if made.steps is not None:
                    # With many members, just the steps told are enough.
                    numbers = tuple(6 for _ in system.pools) if len(system.pools) < 2 else (3, 3)
                    if any(self.is_under(row, numbers) for row in made.rows) and made.steps <= 3 and len(slow.all_events(system, numbers)) < 12:
                        runs = slow.all_runs(system, numbers, made.steps)
                        least = min((len(events) for events, states in runs if slow.does_match(states, target)), default=99)
                        self.assertGreaterEqual(least, made.steps)

    def test_certificates_and_contents(self):
        for system, targets in small_questions():
            known = list(slow.all_patterns(system, 2))
            for target in targets:
                made = Reach(system, target)
                told = made.certificate()
                self.assertIs(is_certificate(system, target, told), True)
                self.assertIs(is_closed(system, target, made.closed), True)
                self.assertEqual(told[0], "run" if made.is_reachable else "closed")
                if made.is_reachable:
                    self.assertEqual((sum(told[1]), Run(system, *told[1:])), (made.fewest, made.run()))
                    self.check_run(made, made.run(), told[1])
                for pattern in known[:40]:
                    self.assertIs(pattern in made, any(slow.is_under(one, pattern) for one in made.closed))

    def test_the_closed_set_is_the_least_one(self):
        # [0.18]: each of its patterns has, in each other closed set, a pattern below it.
        for system in (SERVE, LOCK, ALONE):
            known = list(slow.all_patterns(system, 2))
            for target in known[:12]:
                made, source = Reach(system, target), random.Random(1)
                for _ in range(60):
                    some = tuple(sorted(source.sample(known, source.randint(1, 4))))
                    if is_closed(system, target, some):
                        self.assertTrue(all(any(slow.is_under(one, own) for one in some) for own in made.closed))

    def test_actions_taken_out(self):
        # [0.23]: they never make a pattern reachable.
        for system, targets in small_questions():
            for name, target in itertools.product(system.names, targets[:3]):
                if len(system) > 1 and not Reach(system, target).is_reachable:
                    self.assertIs(Reach(system.without((name,)), target).is_reachable, False)

    def test_a_pattern_needs_more_members_than_it_asks_for(self):
        # [0.24]
        system = System.from_lines("agent p s t", "pool x a b c", "action go p s t, x a b", "action on x a a, x b c")
        self.assertEqual(Reach(system, ((), (("x", "c", 1),))).rows, ((2,),))


class RunTest(unittest.TestCase):
    def test_with_numbers_and_without(self):
        made = Reach(MAIL, USED)
        self.assertEqual((made.run().numbers, made.run(numbers=None).numbers), ((2,), (2,)))
        for number in (2, 3, 2000):
            run = made.run(numbers=(number,))
            self.assertEqual(run.numbers, (number,))
            self.assertTrue(slow.does_match(run.finals, USED))
        for number in (0, 1):
            check_error(self, InvalidOperation, {}, made.run, numbers=(number,))
        check_error(self, InvalidOperation, {}, Reach(LOCK, TWO_IN).run)
        check_error(self, InvalidOperation, {}, Reach(LOCK, TWO_IN).run, numbers=(5,))

    def test_no_numbers(self):
        for value in without_kind(NO_TUPLES, type(None)) + [(), (2001,), (-1,), (True,), (2, 2), (10 ** 60,), (None,), ((2,),)]:
            for made in (Reach(MAIL, USED), Reach(LOCK, TWO_IN)):
                check_error(self, InvalidRun, {}, made.run, numbers=value)
        self.assertEqual(Reach(ALONE, ((("p", "t"),), ())).run(numbers=()).numbers, ())

    def test_several_rows(self):
        system = System.from_lines("agent p s t", "pool x a", "pool y a", "action left p s t, x a a, x a a, x a a", "action right p s t, y a a")
        made = Reach(system, ((("p", "t"),), ()))
        self.assertEqual((made.rows, made.fewest, made.run().numbers), (((0, 1), (3, 0)), 1, (0, 1)))
        self.assertEqual((made.run(numbers=(4, 0)).numbers, made.run(numbers=(3, 7)).numbers), ((4, 0), (3, 7)))
        check_error(self, InvalidOperation, {}, made.run, numbers=(2, 0))

    def test_long_runs(self):
        made = Reach(MAIL, ((), (("letter", "used", 13),)))
        self.assertEqual((made.rows, made.steps, len(made.run())), (((13,),), 26, 26))

    def test_members_in_equal_moves_ascend(self):
        made = Reach(TWINS, ((), (("x", "b", 4),)))
        self.assertTrue(slow.does_match(slow.at_end(TWINS, made.run().numbers, made.run().events), ((), (("x", "b", 4),))))
        self.assertTrue(set(made.run().events) <= set(slow.all_events(TWINS, (4,))))


    def test_rows_that_another_one_is_below(self):
        # Both patterns are least ones, as one of them asks for an agent, but one row is below the other one.
        system = System.from_lines("agent p s", "pool x a b", "action one p s s, x a b", "action two x a a, x a b")
        made = Reach(system, ((), (("x", "b", 1),)))
        self.assertEqual((len(made), made.rows, made.fewest, made.run().numbers), (3, ((1,),), 1, (1,)))
        self.assertEqual(made.run(numbers=(2,)).numbers, (2,))

    def test_as_many_members_as_rounds_can_ask_for(self):
        # Each step of the first agent needs three members more: 180 of 215 steps.
        system, target = counter(216)
        lines = [f"{line}, x s t, x s t, x s t" if line.startswith("action p") else line for line in system.lines]
        made = Reach(System.from_lines("pool x s t", *lines), target)
        self.assertEqual((made.rows, made.steps, len(made.run()), made.run().finals["x", 539]), (((540,),), 215, 215, "t"))
        check_error(self, InvalidOperation, {}, made.run, numbers=(539,))


class LimitTest(unittest.TestCase):
    def test_400_patterns_and_401(self):
        for left, right in ((2, 1), (3, 2), (4, 4), (5, 3)):
            made = Reach(SPREAD, spread_target(left, right))
            self.assertEqual(made.rounds, slow.rounds_of(SPREAD, spread_target(left, right)))
            self.assertEqual(len(made), (left + 1) * (right + 1) + (left - 1) * right)
        made = Reach(SPREAD, spread_target(19, 10))
        self.assertEqual((len(made), max(len(patterns) for patterns in made.rounds)), (400, 400))
        self.assertIs(is_certificate(SPREAD, spread_target(19, 10), made.certificate()), True)
        check_error(self, TooMany, {"limit": 400}, Reach, SPREAD, spread_target(16, 12))
        check_error(self, TooMany, {"limit": 400}, Reach, SPREAD, spread_target(40, 40))

    def test_a_round_that_is_too_large_only_in_between(self):
        system = peak_system()
        made = Reach(system, ((("p", "t"),), (("x", "b", 3), ("y", "b", 3))))
        sizes = [1, 5, 14, 30, 55, 92, 144, 210, 256, 271, 247, 177, 118, 73, 48]
        self.assertEqual([len(patterns) for patterns in made.rounds], sizes)
        # Here the rounds have up to 527 patterns, and the last one has 96.
        check_error(self, TooMany, {"limit": 400}, Reach, system, ((("p", "t"),), (("x", "b", 3), ("y", "b", 3), ("z", "b", 1))))

    def test_many_rounds(self):
        for many in (399, 400):
            system, target = counter(many)
            made = Reach(system, target)
            self.assertEqual((len(made), made.steps, made.rows), (many, many - 1, ((),)))
            self.assertEqual(len(made.run().events), many - 1)
            self.assertIs(is_certificate(system, target, made.certificate()), True)
        check_error(self, TooMany, {"limit": 400}, Reach, *counter(401))

    def test_numbers_of_targets(self):
        for number in (1, MAX_TARGET):
            made = Reach(MAIL, ((), (("letter", "sent", number),)))
            self.assertEqual((made.fewest, made.steps), (number, number))
        check_error(self, InvalidOperation, {}, Reach, MAIL, ((), (("letter", "sent", MAX_TARGET + 1),)))
        check_error(self, InvalidOperation, {}, Reach, MAIL, ((), (("letter", "sent", 0),)))


class ErrorTest(unittest.TestCase):
    def test_wrong_arguments(self):
        for value in without_kind(VALUES, System):
            check_error(self, InvalidSystem, {}, Reach, value, None)
        for value in VALUES + NO_PATTERNS + (((), (("client", "in", 41),)), ((), (("client", "in", int("9" * 60)),))):
            check_error(self, InvalidOperation, {}, Reach, SERVE, value)

    def test_contents(self):
        made = Reach(LOCK, TWO_IN)
        for value in VALUES + NO_PATTERNS:
            self.assertIs(value in made, False, value)
        for pattern in (((), (("client", "in", int("9" * 60)),)), ((), (("client", "in", 2000), ("client", "out", 5000))), TWO_IN):
            self.assertIs(pattern in made, True)
        for pattern in (EMPTY, ((), (("client", "in", 1), ("client", "out", int("9" * 60))))):
            self.assertIs(pattern in made, False)

    def test_equality(self):
        made = Reach(LOCK, TWO_IN)
        check_equality(self, made, Reach(LOCK, TWO_IN), True)
        check_equality(self, made, Reach(SERVE, TWO_IN), False)
        check_equality(self, made, Reach(LOCK, ((), (("client", "in", 1),))), False)
        for value in VALUES + (TWO_IN, str(made), made.closed):
            check_equality(self, made, value, False)

    def test_it_never_changes(self):
        made = Reach(LOCK, TWO_IN)
        check_fixed(self, made, "system", "target", "rounds", "closed", "rows", "fewest", "steps", "is_reachable")
        self.assertEqual(made.rounds, made.rounds)
        check_not_iterable(self, made)


if __name__ == "__main__":
    unittest.main()
