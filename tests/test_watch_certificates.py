"""Tests of certificates for watched runs: promises 0.6 and 9.4, and the class of stage 9."""

import itertools
import random
import unittest

from groupclocks.base.systems import System
from groupclocks.clocks.watch import Watch
from groupclocks.cover.reach import MAX_CLOSED
from groupclocks.errors import InvalidOperation, TooMany
from groupclocks.runs.runs import Run
from tests import slow
from tests.samples import ALONE, LOCK, MAIL, SERVE, TWINS, VALUES, check_error, without_kind
from tests.test_reach import counter
from tests.test_watch import BEHIND, EMPTY, NO_PATTERNS, WATCH, all_watches, numbers_of

# In LOCK, nobody is in beside a client that is told of a "take".
LOCKED = Watch(LOCK, ("take",))
TWO_IN = ((), (("client", "in", "fresh", 1), ("client", "in", "told", 1)))
# Targets ((p s told), (x b fresh n, y b fresh m)) have (n + 2)(m + 1) patterns in both parts of the last round together.
SPREAD = Watch(System.from_lines("agent p s", "pool x a b", "pool y a b", "action left x a b", "action right y a b", "action start p s s"), ("start",), barred=("left",))


def spread_targets(left, right):
    return (((("p", "s", "told"),), (("x", "b", "fresh", left), ("y", "b", "fresh", right))),)


def some_targets(watch, seed, many=3):
    """Some tuples of watched patterns of few members, () among them."""
    known, source = sorted(slow.all_watched_patterns(watch.system, 2)), random.Random(seed)
    return [()] + [tuple(source.sample(known, min(len(known), source.randint(1, 3)))) for _ in range(many)]


class MadeTest(unittest.TestCase):
    def test_certificates_are_right(self):
        forms = []
        for seed, watch in enumerate(list(all_watches())[::3]):
            ends = {numbers: slow.watched_ends(watch.system, numbers, watch.starts, watch.barred, watch.carriers) for numbers in numbers_of(watch.system, 3)}
            for targets in some_targets(watch, seed):
                rounds = slow.watched_rounds(watch, targets, 150)
                if rounds is None:
                    continue
                found = watch.certificate(targets)
                self.assertIs(watch.is_certificate(targets, found), True)
                matched = [sum(numbers) for numbers, states in ends.items() if any(slow.does_match(one, target) for one in states for target in targets)]
                forms.append(found[0])
                if found[0] == "closed":
                    self.assertEqual((matched, found[1:]), ([], rounds[-1]))
                else:
                    self.check_run(watch, targets, found, matched)
        self.assertGreater(min(forms.count("run"), forms.count("closed")), 30)

    def check_run(self, watch, targets, found, matched):
        """Check a watched run, and that it has as few members as possible."""
        _, numbers, events, index = found
        self.assertIsNotNone(slow.at_end(watch.system, numbers, events))
        self.assertIn(events[index][0], watch.starts)
        self.assertFalse([event for event in events[index + 1:] if event[0] in watch.barred])
        tagged = slow.tagged_at_end(watch.system, numbers, events, index, watch.carriers)
        self.assertTrue(any(slow.does_match(tagged, target) for target in targets))
        least = min(matched, default=None)
        self.assertTrue(sum(numbers) == least if matched else sum(numbers) > 2)

    def test_no_targets(self):
        self.assertEqual(WATCH.certificate(()), ("closed", (), ()))
        self.assertIs(WATCH.is_certificate((), ("closed", (), ())), True)
        self.assertIs(WATCH.is_certificate((), ("run", (1,), (("send", (0,)),), 0)), False)

    def test_the_watched_event_is_the_first_or_the_last_one(self):
        self.assertEqual(WATCH.certificate((BEHIND,)), ("run", (1,), (("send", (0,)), ("get", (0,))), 0))
        told = ((("q", "at", "told"),), ())
        self.assertEqual(Watch(MAIL, ("get",)).certificate((told,)), ("run", (1,), (("send", (0,)), ("get", (0,))), 1))
        self.assertEqual(Watch(MAIL, ("send",)).certificate((EMPTY,)), ("run", (1,), (("send", (0,)),), 0))

    def test_systems_without_pools_and_without_agents(self):
        self.assertEqual(Watch(ALONE, ("left",), carriers=("both",)).certificate((((("p", "s", "told"), ("q", "t", "told")), ()),))[1], ())
        found = Watch(TWINS, ("both",)).certificate((((), (("x", "a", "fresh", 1), ("x", "b", "told", 2))),))
        self.assertEqual(found, ("run", (3,), (("both", found[2][0][1]),), 0))

    def test_an_action_that_is_never_possible(self):
        watch = Watch(System.from_lines("agent p s t", "pool x a", "action never p t t", "action other x a a"), ("never",))
        self.assertEqual(watch.certificate((EMPTY,))[0], "closed")

    def test_several_ways_with_different_numbers(self):
        lines = ("agent p s t", "pool x a", "pool y a", "action left p s t, x a a, x a a, x a a", "action right p s t, y a a", "action mark p t t")
        for system in (System.from_lines(*lines), System.from_lines(*lines[:3], lines[3].replace("x", "y"), lines[4].replace("y", "x"), lines[5])):
            found = Watch(system, ("mark",)).certificate((((("p", "t", "told"),), ()),))
            self.assertEqual((sum(found[1]), len(found[2]), found[3]), (1, 2, 1))
            found = Watch(system, ("left", "right")).certificate((((("p", "t", "told"),), ()),))
            self.assertEqual((sum(found[1]), len(found[2]), found[3]), (1, 1, 0))

    def test_as_many_members_as_rounds_can_ask_for(self):
        # Each step of the first agent needs three members more: 180 of 215 steps, all of them ahead of the watched event.
        counting, (digits, _) = counter(216)
        lines = [f"{line}, x s t, x s t, x s t" if line.startswith("action p") else line for line in counting.lines]
        lines = [line for line in lines if not line.startswith(("agent s", "action s"))]
        system = System.from_lines("pool x s t", "agent z s", *lines, "action mark z s s")
        target = (tuple((*place, "fresh") for place in digits[:3]) + (("z", "s", "told"),), ())
        found = Watch(system, ("mark",), barred=system.names).certificate((target,))
        self.assertEqual((found[0], found[1], len(found[2]), found[3]), ("run", (540,), 216, 215))

    def test_tags_that_take_turns(self):
        # Two members in equal moves, of which one is told and the other one is not.
        system = System.from_lines("agent p s", "pool x a b", "action mark p s s, x a a", "action meet x a b, x a b")
        for carriers, told in (((), 1), (("meet",), 2)):
            watch = Watch(system, ("mark",), barred=("mark",), carriers=carriers)
            for number in (1, 2):
                found = watch.certificate((((), (("x", "b", "told", number),)),))
                self.assertEqual(found[0], "run" if number <= told else "closed")
            found = watch.certificate((((), (("x", "b", "behind", 1),)),))
            self.assertEqual(found[0], "closed" if carriers else "run")


class LimitTest(unittest.TestCase):
    def test_400_patterns_in_both_parts_together(self):
        for left, right in ((1, 1), (3, 2), (2, 5)):
            early, late = slow.watched_rounds(SPREAD, spread_targets(left, right))[-1]
            self.assertEqual(len(early) + len(late), (left + 2) * (right + 1))
        found = SPREAD.certificate(spread_targets(18, 19))
        self.assertEqual((found[0], sum(found[1])), ("run", 37))
        self.assertIs(SPREAD.is_certificate(spread_targets(18, 19), found), True)
        check_error(self, TooMany, {"limit": 400}, SPREAD.certificate, spread_targets(11, 30))
        check_error(self, TooMany, {"limit": 400}, SPREAD.certificate, spread_targets(40, 40))

    def test_more_than_400_targets(self):
        chosen = list(itertools.product((1, 2, 3, 4, 5, 6, 7, 8), repeat=2))
        targets = tuple(((("p", state, tag),), (("x", "a", "told", one), ("x", "b", "behind", 9 - one), ("x", "b", "told", number)))
                        for state in "s" for tag in ("told", "fresh", "behind") for one, number in chosen)
        # These are many, but the least one of each row is below the others.
        self.assertEqual(SPREAD.certificate(targets)[0], "closed")
        apart = tuple(((), (("x", "a", "told", one), ("x", "b", "told", 41 - one), ("y", "a", "told", other), ("y", "b", "told", 41 - other)))
                      for one in range(1, 21) for other in range(1, 22))
        self.assertEqual(len(apart), 420)
        check_error(self, TooMany, {"limit": 400}, Watch(SPREAD.system, ("start",), barred=("left", "right", "start")).certificate, apart)
        self.assertEqual(Watch(SPREAD.system, ("start",), barred=("left", "right", "start")).certificate(apart[:400])[0], "closed")

    def test_numbers_of_targets(self):
        for number in (1, 40):
            self.assertEqual(WATCH.certificate((((), (("letter", "blank", "fresh", number),)),))[1], (number + 1,))
        for number in (0, 41, int("9" * 60)):
            check_error(self, InvalidOperation, {}, WATCH.certificate, (BEHIND, ((), (("letter", "blank", "fresh", number),))))
            check_error(self, InvalidOperation, {}, WATCH.is_certificate, (((), (("letter", "blank", "fresh", number),)),), None)

    def test_parts_of_2000_patterns_and_of_one_more(self):
        _, early, late = LOCKED.certificate((TWO_IN,))
        more_early = [((), (("client", "in", number),)) for number in range(2, 2500)]
        more_late = [((), (("client", "in", "fresh", number), ("client", "in", "told", 1))) for number in range(2, 2500)]
        for first, second, expected in ((0, 0, True), (1, 0, False), (0, 1, False)):
            whole = tuple(sorted(set(list(early) + more_early[:MAX_CLOSED - len(early)])))
            rest = [one for one in more_early if one not in whole]
            whole = tuple(sorted([*whole, *rest[:MAX_CLOSED - len(whole) + first]]))
            last = tuple(sorted([*late, *more_late[:MAX_CLOSED - len(late) + second]]))
            self.assertEqual((len(whole), len(last)), (MAX_CLOSED + first, MAX_CLOSED + second))
            self.assertIs(LOCKED.is_certificate((TWO_IN,), ("closed", whole, last)), expected)


class JudgeTest(unittest.TestCase):
    def test_pairs_near_a_closed_one(self):
        closed = 0
        for seed, watch in enumerate(list(all_watches())[1::3]):
            source = random.Random(seed)
            known, watched = list(slow.all_patterns(watch.system, 1)), list(slow.all_watched_patterns(watch.system, 1))
            for targets in some_targets(watch, seed, 2):
                rounds = slow.watched_rounds(watch, targets, 60)
                if rounds is None:
                    continue
                early, late = rounds[-1]
                for _ in range(5):
                    one = self.near(source, early, known)
                    other = self.near(source, late, watched)
                    bars = not any(slow.does_match(slow.start_of(watch.system, (9,) * len(watch.system.pools)), pattern) for pattern in one)
                    expected = bars and slow.is_closed_pair(watch, targets, one, other)
                    self.assertIs(watch.is_certificate(targets, ("closed", one, other)), expected)
                    closed += expected
        self.assertGreater(closed, 100)

    def near(self, source, some, known):
        """The patterns, with some more, and perhaps with one less."""
        more = set(some) | set(source.sample(known, min(len(known), source.choice((0, 0, 1, 2)))))
        if more and source.random() < 0.4:
            more.remove(source.choice(sorted(more)))
        return tuple(sorted(more))

    def test_every_watched_run(self):
        for watch, numbers, most in ((WATCH, (2,), 4), (Watch(SERVE, ("ask", "think"), barred=("think",), carriers=("reply",)), (2,), 3), (LOCKED, (2,), 3)):
            known = sorted(slow.all_watched_patterns(watch.system, 2))
            targets = tuple(random.Random(8).sample(known, 8))
            for events, _ in slow.all_runs(watch.system, numbers, most):
                for index in range(-1, len(events) + 1):
                    expected = 0 <= index < len(events) and events[index][0] in watch.starts and not [event for event in events[index + 1:] if event[0] in watch.barred]
                    if expected:
                        tagged = slow.tagged_at_end(watch.system, numbers, events, index, watch.carriers)
                        expected = any(slow.does_match(tagged, target) for target in targets)
                    self.assertIs(watch.is_certificate(targets, ("run", numbers, events, index)), expected)

    def test_more_members_and_events_than_necessary(self):
        send, get = ("send", (0,)), ("get", (0,))
        for value in (
            ("run", (1,), (send, get), 0), ("run", (7,), (send, get), 0), ("run", (2000,), (send, get), 0), ("run", (2,), (("send", (1,)), send, get), 1),
            ("run", (3,), (send, ("send", (2,)), get, ("get", (2,))), 1),
        ):
            self.assertIs(WATCH.is_certificate((BEHIND,), value), True, value)
        self.assertIs(WATCH.is_certificate((EMPTY,), ("run", (2000,), tuple(("send", (number,)) for number in range(2000)), 1999)), True)

    def test_values_near_a_right_run(self):
        send, get = ("send", (0,)), ("get", (0,))
        for value in (
            ("run", (1,), (send, get)), ("run", (1,), (send, get), 1), ("run", (1,), (send, get), 2), ("run", (1,), (send, get), -2), ("run", (1,), (send, get), False),
            ("run", (1,), (send, get), None), ("run", (1,), (send, get), 0, 0), ("run", (1,), (get, send), 0), ("run", (0,), (send, get), 0), ("run", (True,), (send, get), 0),
            ("run", (1,), [send, get], 0), ("run", [1], (send, get), 0), ["run", (1,), (send, get), 0], ("Run", (1,), (send, get), 0), ("run", (1,), (send,), 0),
            ("run", (2,), (send, ("send", (1,)), get), 0), ("run", (1,), (("send", (False,)), get), 0), ("run", (2001,), (send, get), 0), ((1,), (send, get), 0),
            ("closed", (1,), (send, get), 0), ("run", (1,), (send, get), (0,)), ("run", (1,), (send, get), 10 ** 60), ("run", Run(MAIL, (1,), (send, get)), 0),
        ):
            self.assertIs(WATCH.is_certificate((BEHIND,), value), False, value)

    def test_values_near_a_right_pair(self):
        _, early, late = LOCKED.certificate((TWO_IN,))
        self.assertIs(LOCKED.is_certificate((TWO_IN,), ("closed", early, late)), True)
        for value in (
            ("closed", late, early), ("closed", early, late, 0), ("closed", early), ["closed", early, late], ("closed", list(early), late), ("closed", early, list(late)),
            ("closed", early[::-1], late), ("closed", early, late[::-1]), ("closed", early + early[-1:], late), ("closed", early, late + late[-1:]), ("closed", (), late),
            ("closed", early, ()), ("closed", (), ()), ("run", early, late), (early, late), ("Closed", early, late), ("closed", (EMPTY,), late), ("closed", early, (EMPTY,)),
            ("closed", early[1:], late), ("closed", early[:-1], late), ("closed", early, late[1:]), ("closed", early, late[:-1]),
        ):
            self.assertIs(LOCKED.is_certificate((TWO_IN,), value), False, value)
        self.assertGreater(min(len(early), len(late)), 1)

    def test_values_of_every_kind(self):
        for value in VALUES + NO_PATTERNS:
            for whole in (value, ("closed", value, ()), ("closed", (), value), ("closed", (value,), (value,)), ("run", value, (), 0), ("run", (2,), value, 0),
                          ("run", (1,), (("send", (0,)),), value), (value, (1,), (), 0), ("run", (2,), (value,), 0)):
                if whole != ("run", (1,), (("send", (0,)),), 0):
                    self.assertIs(WATCH.is_certificate((BEHIND,), whole), False, whole)

    def test_wrong_targets(self):
        for value in without_kind(VALUES, tuple) + [[BEHIND], BEHIND, (BEHIND, None), (BEHIND, [BEHIND]), "", {BEHIND: 1}]:
            check_error(self, InvalidOperation, {}, WATCH.certificate, value)
            check_error(self, InvalidOperation, {}, WATCH.is_certificate, value, None)
        for value in NO_PATTERNS:
            check_error(self, InvalidOperation, {}, WATCH.certificate, (BEHIND, value))
            check_error(self, InvalidOperation, {}, WATCH.is_certificate, (value, BEHIND), ("closed", (), ()))

    def test_many_digits(self):
        nines = int("9" * 60)
        _, early, late = LOCKED.certificate((TWO_IN,))
        more_early = tuple(sorted(early + (((), (("client", "in", nines),)),)))
        more_late = tuple(sorted(late + (((), (("client", "in", "fresh", nines), ("client", "in", "told", 1))),)))
        self.assertIs(LOCKED.is_certificate((TWO_IN,), ("closed", more_early, more_late)), True)
        more_late = tuple(sorted(late + (((), (("client", "in", "fresh", nines),)),)))
        self.assertIs(LOCKED.is_certificate((TWO_IN,), ("closed", more_early, more_late)), slow.is_closed_pair(LOCKED, (TWO_IN,), more_early, more_late))


if __name__ == "__main__":
    unittest.main()
