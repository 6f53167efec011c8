"""Tests of closed sets and certificates for targets: promises 0.5, 0.6, 0.14, 0.18 and 5.2."""

import itertools
import random
import unittest

from groupclocks.base.systems import System
from groupclocks.cover.reach import MAX_CLOSED, Reach, is_certificate, is_closed
from groupclocks.errors import InvalidOperation, InvalidSystem
from tests import slow
from tests.samples import ALONE, LOCK, MAIL, MIXED, SERVE, TWINS, VALUES, check_error, without_kind
from tests.test_patterns import NO_PATTERNS

TWO_IN = ((), (("client", "in", 2),))
SMALLER = ((("lock", "free"),), (("client", "in", 1),))
BARRING = (TWO_IN, SMALLER)
USED = ((), (("letter", "used", 2),))
USING = (("send", (0,)), ("get", (0,)), ("send", (1,)), ("get", (1,)))
EMPTY = ((), ())
NINES = int("9" * 60)


def is_closed_slowly(system, target, some):
    """Whether these patterns are closed for the target, by the words of [0.14]."""
    ahead = [slow.ahead_of(system, name, pattern) for pattern in some for name in system.names]
    asked = [target] + [pattern for pattern in ahead if pattern is not None]
    return all(any(slow.is_under(one, pattern) for one in some) for pattern in asked)


def many_in(first, many):
    """So many patterns, ascending, that ask for more and more members."""
    return tuple(((), (("client", "in", number),)) for number in range(first, first + many))


class ClosedTest(unittest.TestCase):
    def test_every_set_of_a_few_patterns(self):
        for system, most in ((SERVE, 1), (LOCK, 1), (ALONE, 0), (TWINS, 2), (MAIL, 1)):
            known = sorted(slow.all_patterns(system, most))
            targets = random.Random(2).sample(known, min(5, len(known)))
            for many in range(3):
                for some in itertools.combinations(known, many):
                    for target in targets:
                        self.assertIs(is_closed(system, target, some), is_closed_slowly(system, target, some))

    def test_sets_of_several_patterns(self):
        source, closed = random.Random(4), 0
        for seed in range(40):
            system = slow.random_system(seed, 2, 2, 2, 3)
            known = sorted(slow.all_patterns(system, 2))
            for target in source.sample(known, min(3, len(known))):
                found = list(Reach(system, target).closed)
                for _ in range(12):
                    # Sets near a closed one: with some patterns more, and perhaps with one less.
                    some = set(found + source.sample(known, min(len(known), source.randint(0, 3))))
                    some = tuple(sorted(some - {source.choice(found)} if source.random() < 0.5 else some))
                    expected = is_closed_slowly(system, target, some)
                    self.assertIs(is_closed(system, target, some), expected)
                    bars = not any(slow.does_match(slow.start_of(system, (9,) * len(system.pools)), one) for one in some)
                    self.assertIs(is_certificate(system, target, ("closed", some)), expected and bars)
                    closed += expected
        self.assertGreater(closed, 200)

    def test_what_is_no_ascending_tuple_of_patterns(self):
        for some in (BARRING[::-1], list(BARRING), BARRING + BARRING[:1], BARRING + BARRING[1:], (BARRING,), {TWO_IN: SMALLER}):
            self.assertIs(is_closed(LOCK, TWO_IN, some), False)
            self.assertIs(is_certificate(LOCK, TWO_IN, ("closed", some)), False)
        for value in VALUES + NO_PATTERNS:
            self.assertIs(is_closed(LOCK, TWO_IN, value), False)
            for some in ((value,), (value, *BARRING), (*BARRING, value)):
                self.assertIs(is_closed(LOCK, TWO_IN, some), False)
                self.assertIs(is_certificate(LOCK, TWO_IN, ("closed", some)), False)
        self.assertIs(is_closed(LOCK, TWO_IN, BARRING), True)
        self.assertIs(is_closed(LOCK, TWO_IN, ()), False)
        self.assertIs(is_closed(LOCK, EMPTY, (EMPTY,)), True)

    def test_2000_patterns_and_one_more(self):
        for many, expected in ((MAX_CLOSED, True), (MAX_CLOSED + 1, False)):
            some = tuple(sorted(many_in(2, many - 1) + (SMALLER,)))
            self.assertEqual(len(some), many)
            self.assertIs(is_closed(LOCK, TWO_IN, some), expected)
            self.assertIs(is_certificate(LOCK, TWO_IN, ("closed", some)), expected)
        self.assertIs(is_closed(LOCK, TWO_IN, many_in(2, 2000)), False)

    def test_2000_patterns_none_of_them_below_another_one(self):
        system = System.from_lines("pool x a b c", "action left x a b", "action right x b c")
        target = ((), (("x", "c", 40),))
        closed = Reach(system, ((), (("x", "c", 26),))).closed
        self.assertEqual(len(closed), 378)
        self.assertIs(is_closed(system, target, closed), True)
        self.assertIs(is_certificate(system, target, ("closed", closed)), False)
        whole = tuple(sorted(((), tuple(("x", state, number) for state, number in zip("abc", (one, other, 61 - one - other)) if number)) for one in range(62) for other in range(62 - one)))
        self.assertEqual(len(whole), 1953)
        self.assertIs(is_closed(system, ((), (("x", "c", 40),)), whole), False)
        still = System.from_lines("pool x a b c", "action rest x a a, x b b, x c c")
        self.assertIs(is_closed(still, ((), (("x", "a", 40), ("x", "b", 40))), whole), True)

    def test_many_digits(self):
        some = tuple(sorted(BARRING + (((), (("client", "in", NINES),)), ((("lock", "taken"),), (("client", "out", NINES),)))))
        self.assertIs(is_closed(LOCK, TWO_IN, some), False)
        some = tuple(sorted(BARRING + (((), (("client", "in", NINES),)), ((("lock", "free"),), (("client", "in", NINES),)))))
        self.assertIs(is_certificate(LOCK, TWO_IN, ("closed", some)), True)
        self.assertIs(is_closed(LOCK, TWO_IN, ((), (("client", "in", 10 ** 60),)) + BARRING), False)


class CertificateTest(unittest.TestCase):
    def test_closed_sets_that_can_fit_the_start(self):
        self.assertIs(is_closed(MAIL, USED, Reach(MAIL, USED).closed), True)
        self.assertIs(is_certificate(MAIL, USED, ("closed", Reach(MAIL, USED).closed)), False)
        self.assertIs(is_certificate(LOCK, TWO_IN, ("closed", BARRING)), True)
        self.assertIs(is_certificate(LOCK, TWO_IN, ("closed", (EMPTY,))), False)
        free = ((("lock", "free"),), ())
        self.assertIs(is_certificate(LOCK, TWO_IN, ("closed", tuple(sorted((TWO_IN, free))))), False)

    def test_runs(self):
        for value in (
            ("run", (2,), USING), ("run", (3,), USING), ("run", (2000,), USING),
            ("run", (3,), (("send", (2,)),) + USING), ("run", (4,), USING + (("send", (2,)), ("get", (2,)), ("send", (3,)))),
        ):
            self.assertIs(is_certificate(MAIL, USED, value), True)
        think = (("think", (0,)),)
        self.assertIs(is_certificate(SERVE, EMPTY, ("run", (1,), think * 2000)), True)
        self.assertIs(is_certificate(SERVE, EMPTY, ("run", (1,), think * 2001)), False)
        self.assertIs(is_certificate(SERVE, EMPTY, ("run", (0,), ())), True)
        self.assertIs(is_certificate(ALONE, ((("q", "t"),), ()), ("run", (), (("right", ()),))), True)

    def test_values_near_a_right_run(self):
        for value in (
            ("run", (1,), USING), ("run", (2,), USING[:3]), ("run", (2,), USING[::-1]), ("run", (2,), list(USING)), ("run", [2], USING),
            ("run", 2, USING), ("run", (True,), USING), ("run", (2001,), USING), ("run", (2, 2), USING), ("run", (), USING),
            ("run", (2,), USING + (("get", (1,)),)), ("run", (2,), USING + (("fly", (1,)),)), ("run", (2,), USING + (None,)), ("run", (2,)),
            ("run", (2,), USING, 0), ["run", (2,), USING], ("Run", (2,), USING), ("closed", (2,), USING), ((2,), USING), ("run", USING),
            ("run", (2,), (("send", (False,)), ("get", (0,)), ("send", (True,)), ("get", (1,)))), ("run", USING, (2,)), ("run", (2,), None), (None, (2,), USING),
        ):
            self.assertIs(is_certificate(MAIL, USED, value), False, value)

    def test_values_near_a_right_closed_set(self):
        for value in (
            ("closed", BARRING[:1]), ("closed", BARRING[1:]), ("closed", ()), ("closed",), ("closed", BARRING, ()), ["closed", BARRING], ("run", BARRING),
            ("Closed", BARRING), (None, BARRING), BARRING, ("closed", BARRING + (TWO_IN,)), ("closed", (TWO_IN, ((("lock", "free"),), (("client", "in", True),)))),
            ("closed", (((), (("client", "in", 2),)), ((("lock", "taken"),), (("client", "in", 1),)))), ("shared", "lock"), "closed",
        ):
            self.assertIs(is_certificate(LOCK, TWO_IN, value), False, value)

    def test_values_of_every_kind(self):
        for value in VALUES + NO_PATTERNS:
            for whole in (value, ("closed", value), ("run", value, ()), ("run", (2,), value), ("run", value, value), ("run", (2,), (value,)), (value, (2,), ()), (value, BARRING)):
                self.assertIs(is_certificate(LOCK, TWO_IN, whole), False, whole)

    def test_every_short_run(self):
        for system, numbers, most in ((SERVE, (2,), 2), (MAIL, (2,), 4), (TWINS, (3,), 2), (MIXED, (2, 1), 2), (ALONE, (), 3)):
            known = list(slow.all_patterns(system, 2))
            targets = random.Random(6).sample(known, min(15, len(known)))
            for events, states in slow.all_runs(system, numbers, most):
                for target in targets:
                    self.assertIs(is_certificate(system, target, ("run", numbers, events)), slow.does_match(states, target))

    def test_exactly_one_form_exists(self):
        for seed in range(60):
            system = slow.random_system(seed, 2, 2, 2, 3)
            known = list(slow.all_patterns(system, 2))
            for target in random.Random(seed).sample(known, min(4, len(known))):
                made = Reach(system, target)
                self.assertIs(is_certificate(system, target, ("closed", made.closed)), not made.is_reachable)
                self.assertIs(is_certificate(system, target, made.certificate()), True)


class ErrorTest(unittest.TestCase):
    def test_wrong_arguments(self):
        for value in without_kind(VALUES, System):
            for judge in (is_closed, is_certificate):
                check_error(self, InvalidSystem, {}, judge, value, None, None)
        for value in VALUES + NO_PATTERNS + (((), (("client", "in", 41),)), ((), (("client", "in", 0),))):
            for judge in (is_closed, is_certificate):
                check_error(self, InvalidOperation, {}, judge, SERVE, value, None)
                check_error(self, InvalidOperation, {}, judge, SERVE, value, ("closed", (EMPTY,)))


if __name__ == "__main__":
    unittest.main()
