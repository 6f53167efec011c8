"""Tests that answers which are asked for often do not take long: each limit is several times what is needed."""

import itertools
import time
import unittest

from groupclocks.base.systems import System
from groupclocks.clocks.watch import Watch
from groupclocks.cover.patterns import is_below, least_patterns, pattern_ahead
from groupclocks.cover.reach import Reach, is_certificate, is_closed
from groupclocks.errors import NotPossible, TooMany
from groupclocks.order.groups import each_partition, fewest_groups, greatest_groups, how_many
from groupclocks.order.pairs import Order
from groupclocks.runs.runs import Run
from tests.samples import MAIL, SERVE, check_error

ONE = System.from_lines("agent p s", *[f"action {letter} p s s" for letter in "abcdefghijkl"])
PAIRS = list(itertools.combinations("pqrst", 2))
TEN = System.from_lines(*[f"agent {letter} s" for letter in "pqrst"],
                        *[f"action {one}{other} {one} s s, {other} s s" for one, other in PAIRS])
POOL = System.from_lines("pool x a b", "action go x a b")


def row_of_agents(many):
    """A system of so many agents that go on through five states one by one, and the target that all are in the last."""
    lines = [f"agent {letter} k l m n o" for letter in "abcd"[:many]]
    lines += [f"action {letter}{one}{other} {letter} {one} {other}" for letter in "abcd"[:many] for one, other in ("kl", "lm", "mn", "no")]
    return System.from_lines(*lines), (tuple((letter, "o") for letter in "abcd"[:many]), ())


class SpeedTest(unittest.TestCase):
    def check_time(self, limit, many, call, *rest):
        """Check that so many calls take at most so many seconds."""
        begin = time.perf_counter()
        for _ in range(many):
            call(*rest)
        self.assertLess(time.perf_counter() - begin, limit, (call, many))

    def test_groups(self):
        for system, least, ways in ((ONE, 1, 1), (TEN, 3, 20)):
            order, names = Order(system), system.names
            self.assertEqual((fewest_groups(order, names), how_many(order, names)), (least, ways))
            for call in (fewest_groups, how_many, greatest_groups, lambda order, names: next(each_partition(order, names))):
                self.check_time(1, 1000, call, order, names)

    def test_groups_of_new_orders(self):
        orders = [Order(System.from_lines(*TEN.lines)) for _ in range(40)]
        for call in (fewest_groups, how_many, lambda order, names: next(each_partition(order, names))):
            begin = time.perf_counter()
            for order in orders:
                call(order, TEN.names)
            self.assertLess(time.perf_counter() - begin, 1)

    def test_orders_of_a_run(self):
        run = Run(ONE, (), (("a", ()),) * 1200)
        self.assertEqual(list(run.each_order()), [tuple(range(1200))])
        self.check_time(2, 60, lambda: list(run.each_order()))

    def test_runs(self):
        events = (("a", ()),) * 2000
        self.check_time(2, 150, Run, ONE, (), events)
        self.check_time(2, 150, check_error, self, TooMany, {"limit": 2000}, Run, ONE, (), events + events[:1])
        two = System.from_lines("agent p s t", "action a p s s", "action b p t t")
        self.check_time(2, 150, check_error, self, NotPossible, {"at": 1999}, Run, two, (), events[1:] + (("b", ()),))

    def test_pasts_of_a_run_that_grows(self):
        def grow():
            run = Run(ONE, ())
            for _ in range(300):
                run = run + ("a", ())
                run.past(len(run) - 1)
        self.check_time(2, 1, grow)

    def test_reach(self):
        for many, often in ((3, 60), (4, 20)):
            for call, number in ((lambda: row_of_agents(many), often), (lambda known=row_of_agents(many): known, 2000)):
                begin = time.perf_counter()
                for _ in range(number):
                    system, target = call()
                    try:
                        self.assertEqual(len(Reach(system, target)), 125)
                    except TooMany:
                        self.assertEqual(many, 4)
                self.assertLess(time.perf_counter() - begin, 2, many)

    def test_many_patterns(self):
        target = ((), (("x", "b", 1),))
        patterns = tuple(((), (("x", "b", number),)) for number in range(1, 2001))
        self.assertFalse(is_closed(POOL, target, patterns))
        patterns = (((), (("x", "a", 1),)),) + patterns
        self.assertTrue(is_closed(POOL, target, patterns[:2000]))
        self.check_time(3, 60, is_closed, POOL, target, patterns[:2000])
        self.check_time(3, 60, is_certificate, POOL, target, ("closed", patterns[:2000]))

    def test_small_questions(self):
        busy, behind = ((("server", "busy"),), (("client", "out", 2),)), ((("q", "at", "behind"),), ())
        watch = Watch(MAIL, ("send",), barred=("send",))
        post = Run(MAIL, (2,), (("send", (0,)), ("send", (1,)), ("get", (1,)), ("get", (0,))))
        for call, *rest in (
            (least_patterns, SERVE, (busy, ((), (("client", "out", 1),)))), (pattern_ahead, SERVE, "ask", busy), (is_below, SERVE, busy, busy),
            (watch.ahead, "get", behind), (watch.is_match, post, 1, behind),
        ):
            self.check_time(1, 5000, call, *rest)

    def test_kept_searches_change_no_answer(self):
        system, _ = row_of_agents(2)
        targets = [((("a", state), ("b", other)), ()) for state in "klmno" for other in "klmno"]
        first = [Reach(system, target) for target in targets]
        pool = [Reach(SERVE, ((), (("client", state, number),))) for number in range(1, 41) for state in ("in", "out")]
        self.assertEqual([reach.steps for reach in first], [one + other for one in range(5) for other in range(5)])
        self.assertEqual([Reach(system, target).rounds for target in targets], [reach.rounds for reach in first])
        self.assertEqual([Reach(SERVE, reach.target).rounds for reach in pool], [reach.rounds for reach in pool])


if __name__ == "__main__":
    unittest.main()
