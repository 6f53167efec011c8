"""Tests of what is always and never before an action: promises 11.1 to 11.4, and what 0.22 to 0.25 say of it."""

import itertools
import random
import unittest

from groupclocks.base.systems import System
from groupclocks.clocks.watch import Watch
from groupclocks.cover.patterns import needs_of
from groupclocks.cover.reach import Reach
from groupclocks.errors import InvalidOperation, InvalidSystem, TooMany, UnknownName
from groupclocks.order.pairs import Order, is_ordered
from groupclocks.past.always import (
    Past, always_certificate, is_always, is_always_certificate, is_never, is_never_certificate, never_certificate,
)
from tests import judge, slow
from tests.samples import (
    ALONE, LOCK, MAIL, MIXED, NO_TUPLES, SERVE, TUPLES, TWINS, VALUES, check_equality, check_error, check_examples,
    check_fixed, check_not_iterable, without_kind,
)

EXAMPLE = """
>>> [serve.always, serve.never, mail.always, mail.never, serve.says("think", "ask")]
[(('ask', 'reply'),), (), (('send', 'get'),), (('get', 'send'),), 'some']
>>> [is_always(LOCK, ("take",), "give"), is_never(LOCK, ("give",), "take"), always_certificate(LOCK, ("give",), "take")[:2]]
[True, False, ('run', (1,))]
>>> is_always_certificate(MAIL, ("get", "send"), "get", ("closed", (((), (("letter", "sent", 1),)),)))
True
>>> [never_certificate(MAIL, ("send",), "get")[:2], never_certificate(MAIL, ("get",), "send")[0]]
[('run', (1,)), 'closed']
"""
# The action idle is never possible: nobody comes to t.
IDLE = System.from_lines("agent p s t", "pool x a b", "action go p s s", "action idle p t s, x a b", "action turn x a b")
QUESTIONS = (is_always, is_never, always_certificate, never_certificate)


def small_systems():
    """Several small systems."""
    return [SERVE, LOCK, MAIL, TWINS, ALONE, MIXED, IDLE] + [slow.random_system(seed, 2, 1, 3, 3) for seed in range(60)]


def all_names(system):
    """All ascending tuples of one name or more."""
    return [one for many in range(1, len(system) + 1) for one in itertools.combinations(system.names, many)]


def some_questions(seed):
    """Some systems with given actions and another one."""
    source = random.Random(seed)
    for system in small_systems():
        for names in source.sample(all_names(system), min(4, len(all_names(system)))):
            yield system, names, source.choice(system.names)


def never_watch(system, names):
    """The watch of a certificate for "never"."""
    return Watch(system, names, carriers=system.names)


def is_shown_always(system, names, other, value):
    """Whether the value is a certificate for "always", by the words of the document."""
    left = [name for name in system.names if name not in names]
    if judge.does_bar(system, left, needs_of(system, other), value):
        return True
    if not judge.is_run(system, value) or not value[2] or value[2][-1][0] != other:
        return False
    return not any(name in names for name in judge.before_last(system, value[2]))


def is_shown_never(system, names, other, value):
    """Whether the value is a certificate for "never", by the words of the document."""
    if judge.does_bar_watched(never_watch(system, names), judge.tagged_needs(system, other, ("fresh", "told"), "told"), value):
        return True
    if not judge.is_run(system, value) or not value[2] or value[2][-1][0] != other:
        return False
    return any(name in names for name in judge.before_last(system, value[2]))


class ExampleTest(unittest.TestCase):
    def test_examples(self):
        known = {"serve": Past(SERVE), "mail": Past(MAIL), "LOCK": LOCK, "MAIL": MAIL, "is_always": is_always, "is_never": is_never,
                 "always_certificate": always_certificate, "never_certificate": never_certificate, "is_always_certificate": is_always_certificate}
        check_examples(self, EXAMPLE, known)

    def test_the_action_among_the_given_ones(self):
        # The first event of take has no event before it; the others have the earlier ones.
        self.assertFalse(is_always(LOCK, ("take",), "take"))
        self.assertFalse(is_never(LOCK, ("take",), "take"))
        self.assertTrue(is_always(MAIL, ("get", "send"), "get"))
        once = System.from_lines("agent p s t", "agent q s", "action a p s t", "action b q s s")
        self.assertEqual((is_never(once, ("a",), "a"), is_never(once, ("a", "b"), "a"), is_never(once, ("b",), "b")), (True, True, False))
        self.assertEqual((is_always(once, ("a",), "a"), is_never(once, ("a",), "b")), (False, True))

    def test_all_actions_given(self):
        for system in small_systems():
            for other in system.names:
                needs = needs_of(system, other)
                # Without any action there is only the start.
                self.assertIs(is_always(system, system.names, other), not judge.can_fit(system, needs))
                found = always_certificate(system, system.names, other)
                if found[0] == "closed":
                    self.assertEqual(found, ("closed", (needs,)))
                    self.assertTrue(is_always_certificate(system, system.names, other, found))
                else:
                    self.assertEqual((len(found[2]), found[2][0][0]), (1, other))
        more = tuple(sorted({needs_of(MAIL, "get"), ((), (("letter", "used", 7),)), ((("p", "at"),), (("letter", "sent", 3),))}))
        self.assertTrue(is_always_certificate(MAIL, ("get", "send"), "get", ("closed", more)))
        self.assertFalse(is_always_certificate(MAIL, ("get",), "get", ("closed", more)))

    def test_an_action_that_is_never_possible(self):
        past = Past(IDLE)
        self.assertEqual(past.idle, ("idle",))
        for name in IDLE.names:
            self.assertEqual((past.says(name, "idle"), is_always(IDLE, (name,), "idle"), is_never(IDLE, (name,), "idle")), ("idle", True, True))
            self.assertIn((name, "idle"), past.always)
            self.assertIn((name, "idle"), past.never)
            # It is ordered with all ([0.25]).
            self.assertTrue(is_ordered(IDLE, name, "idle"))
        for names in all_names(IDLE):
            self.assertEqual((always_certificate(IDLE, names, "idle")[0], never_certificate(IDLE, names, "idle")[0]), ("closed", "closed"))

    def test_past(self):
        past = Past(MAIL)
        self.assertEqual((past.system, past.idle, str(past), str(Past(SERVE))), (MAIL, (), "past of 2 actions, 1 always, 1 never", "past of 3 actions, 1 always, 0 never"))
        self.assertEqual([past.says(one, other) for one in MAIL.names for other in MAIL.names], ["some", "never", "always", "some"])
        check_equality(self, past, Past(System.from_lines(*reversed(MAIL.lines))), True)
        for other in (Past(SERVE), Order(MAIL), MAIL, str(past)) + VALUES:
            check_equality(self, past, other, False)
        check_fixed(self, past, "system", "always", "never", "idle")
        check_not_iterable(self, past)


class TruthTest(unittest.TestCase):
    def test_certificates_by_the_words(self):
        """Each answer is shown by a certificate that is judged without the package."""
        forms = set()
        for system, names, other in some_questions(1):
            always, never = always_certificate(system, names, other), never_certificate(system, names, other)
            forms.add((always[0], never[0]))
            self.assertEqual((is_always(system, names, other), is_never(system, names, other)), (always[0] == "closed", never[0] == "closed"))
            self.assertTrue(is_shown_always(system, names, other, always))
            self.assertTrue(is_shown_never(system, names, other, never))
            self.assertIs(is_always_certificate(system, names, other, always), True)
            self.assertIs(is_never_certificate(system, names, other, never), True)
        self.assertEqual(len(forms), 4)

    def test_all_short_runs(self):
        for system in small_systems():
            seen = {}
            for numbers in slow.all_numbers(system, 2):
                for events, _ in itertools.islice(slow.all_runs(system, numbers, 4), 800):
                    if events:
                        seen.setdefault(events[-1][0], []).append((sum(numbers), set(judge.before_last(system, events))))
            for other in system.names:
                for names in all_names(system):
                    without = [many for many, before in seen.get(other, ()) if not before & set(names)]
                    behind = [many for many, before in seen.get(other, ()) if before & set(names)]
                    self.check_runs(without, is_always(system, names, other), always_certificate(system, names, other))
                    self.check_runs(behind, is_never(system, names, other), never_certificate(system, names, other))

    def check_runs(self, contradictions, is_so, found):
        """Check an answer and its certificate against the numbers of members of short runs that contradict it."""
        if contradictions:
            self.assertFalse(is_so)
            self.assertLessEqual(sum(found[1]), min(contradictions))

    def test_as_few_members_as_possible(self):
        for system, names, other in some_questions(2):
            found = always_certificate(system, names, other)
            left = tuple(name for name in system.names if name not in names)
            if found[0] == "run" and left:
                needs = needs_of(system, other)
                self.assertEqual(sum(found[1]), Reach(system.without(names), needs).fewest)
            elif found[0] == "run":
                self.assertEqual(sum(found[1]), sum(entry[2] for entry in needs_of(system, other)[1]))
            found = never_certificate(system, names, other)
            if found[0] == "run" and 0 < sum(found[1]) < 4:
                for numbers in slow.all_numbers(system, sum(found[1]) - 1):
                    ends = slow.watched_ends(system, numbers, names, (), system.names)
                    targets = judge.tagged_needs(system, other, ("fresh", "told"), "told")
                    self.assertFalse(any(slow.does_match(end, target) for end in ends for target in targets))

    def test_values_near_right_ones(self):
        source = random.Random(5)
        for system, names, other in [(MAIL, ("send",), "get"), (MAIL, ("get",), "send"), (SERVE, ("ask",), "reply"), *itertools.islice(some_questions(3), 20, 60)]:
            words = judge.words_of(system)
            for make, call, shown in ((always_certificate, is_always_certificate, is_shown_always), (never_certificate, is_never_certificate, is_shown_never)):
                every = list(judge.near(make(system, names, other), words))
                for value in source.sample(every, min(len(every), 120)):
                    self.assertIs(call(system, names, other, value), shown(system, names, other, value), value)

    def test_without_the_given_actions(self):
        # [0.22]
        for system, names, other in some_questions(4):
            left = [name for name in system.names if name not in names]
            if left:
                self.assertIs(is_always(system, names, other), not Reach(system.without(names), needs_of(system, other)).is_reachable)

    def test_past_of_single_actions(self):
        for system in small_systems():
            past = Past(system)
            pairs = list(itertools.product(system.names, repeat=2))
            self.assertEqual(past.always, tuple((one, other) for one, other in pairs if is_always(system, (one,), other)))
            self.assertEqual(past.never, tuple((one, other) for one, other in pairs if is_never(system, (one,), other)))
            self.assertEqual(past.idle, tuple(name for name in system.names if not Reach(system, needs_of(system, name)).is_reachable))
            self.assertEqual(str(past), f"past of {len(system)} actions, {len(past.always)} always, {len(past.never)} never")
            for one, other in pairs:
                word = "always" if (one, other) in past.always else "never" if (one, other) in past.never else "some"
                self.assertEqual(past.says(one, other), "idle" if other in past.idle else word)
                if other not in past.idle:
                    self.assertFalse((one, other) in past.always and (one, other) in past.never)

    def test_more_members_and_events_than_necessary(self):
        events = (("send", (5,)), ("send", (0,)), ("get", (0,)))
        self.assertTrue(is_never_certificate(MAIL, ("send",), "get", ("run", (9,), events)))
        self.assertFalse(is_never_certificate(MAIL, ("get",), "get", ("run", (9,), events)))
        self.assertTrue(is_always_certificate(MAIL, ("get",), "get", ("run", (9,), events)))
        self.assertFalse(is_always_certificate(MAIL, ("send",), "get", ("run", (9,), events)))
        self.assertFalse(is_always_certificate(MAIL, ("get",), "send", ("run", (9,), events)))
        self.assertFalse(is_always_certificate(MAIL, ("get",), "get", ("run", (9,), ())))
        # A given action may be there, if it is not before the last event.
        both = (("left", ()), ("right", ()))
        self.assertTrue(is_always_certificate(ALONE, ("left",), "right", ("run", (), both)))
        self.assertFalse(is_never_certificate(ALONE, ("left",), "right", ("run", (), both)))

    def test_parts_of_2000_patterns(self):
        for many, expected in ((2000, True), (2001, False)):
            patterns = tuple(((), (("letter", "sent", number),)) for number in range(1, many + 1))
            self.assertIs(is_always_certificate(MAIL, ("send",), "get", ("closed", patterns)), expected)
        kind, early, late = never_certificate(IDLE, ("go",), "idle")
        self.assertEqual(kind, "closed")
        for many, expected in ((2000, True), (2001, False)):
            longer = tuple(sorted({*early, *[((("p", "t"),), (("x", "a", number),)) for number in range(2, many - len(early) + 2)]}))
            self.assertEqual(len(longer), many)
            self.assertIs(is_never_certificate(IDLE, ("go",), "idle", (kind, longer, late)), expected)
            more = [(late[-1][0], (("x", "b", "told", number),)) for number in range(1, many - len(late) + 1)]
            longer = tuple(sorted([*late, *more]))
            self.assertEqual(len(longer), many)
            targets = judge.tagged_needs(IDLE, "idle", ("fresh", "told"), "told")
            self.assertIs(judge.does_bar_watched(never_watch(IDLE, ("go",)), targets, (kind, early, longer)), is_never_certificate(IDLE, ("go",), "idle", (kind, early, longer)))


class StatementTest(unittest.TestCase):
    def test_always_before_is_not_ordered(self):
        # [0.24]
        self.assertEqual((is_always(MAIL, ("send",), "get"), is_ordered(MAIL, "send", "get")), (True, False))

    def test_always_goes_on(self):
        # [0.25]
        for system in small_systems():
            always = Past(system).always
            for (one, other), (other_too, third) in itertools.product(always, repeat=2):
                if other == other_too:
                    self.assertIn((one, third), always)

    def test_actions_that_are_taken_out(self):
        # [0.23]
        for system in small_systems():
            for name in system.names:
                if len(system) > 1:
                    smaller = system.without((name,))
                    for other in smaller.names:
                        for given in smaller.names:
                            if is_never(system, (given,), other):
                                self.assertTrue(is_never(smaller, (given,), other))
                            if is_always(system, (given,), other):
                                self.assertTrue(is_always(smaller, (given,), other))


class ErrorTest(unittest.TestCase):
    def test_no_system(self):
        for value in without_kind(VALUES, System):
            for call in QUESTIONS:
                check_error(self, InvalidSystem, {}, call, value, None, None)
            for call in (is_always_certificate, is_never_certificate):
                check_error(self, InvalidSystem, {}, call, value, None, None, None)
            check_error(self, InvalidSystem, {}, Past, value)

    def test_no_names(self):
        for value in NO_TUPLES + TUPLES + (("send", "get"), ("get", "get"), ["get"], ("fly",), ("letter",), ("get", "send", "tell")):
            for call in QUESTIONS:
                check_error(self, InvalidOperation, {}, call, MAIL, value, None)
            for call in (is_always_certificate, is_never_certificate):
                check_error(self, InvalidOperation, {}, call, MAIL, value, "fly", None)

    def test_no_action(self):
        for value in VALUES + ("fly", "letter", MAIL["get"], ("get",)):
            for call in QUESTIONS:
                check_error(self, UnknownName, {"wanted": value}, call, MAIL, ("get",), value)
            for call in (is_always_certificate, is_never_certificate):
                check_error(self, UnknownName, {"wanted": value}, call, MAIL, ("get",), value, None)
            check_error(self, UnknownName, {"wanted": value}, Past(MAIL).says, value, "fly")
            check_error(self, UnknownName, {"wanted": value}, Past(MAIL).says, "get", value)

    def test_no_certificates(self):
        for value in VALUES + (("closed", ()), ("closed", (), ()), ("run", (), ()), ("run", (1,), (("get", (0,)),)), ("shared", "p")):
            for call in (is_always_certificate, is_never_certificate):
                self.assertIs(call(MAIL, ("send",), "get", value), False, value)

    def test_sixteen_actions(self):
        wide = System.from_lines("agent p s", *[f"action {letter} p s s" for letter in "abcdefghijklmnop"])
        self.assertEqual((is_always(wide, wide.names, "a"), is_never(wide, wide.names, "a"), len(Past(wide).never)), (False, False, 0))

    def test_too_many_patterns_for_a_reach(self):
        # m never comes to u, so z is never possible, but who asks for it finds too many patterns.
        system = crowded("m s t u v w x", "action ma m u v", "action mb m v w", "action mc m w x", "action z m x x, p w w, q w w, r w w")
        for call, names in ((is_always, ("z",)), (always_certificate, ("z",)), (is_never, ("z",)), (never_certificate, ("z",))):
            check_error(self, TooMany, {"limit": 400}, call, system, names, "z")
        check_error(self, TooMany, {"limit": 400}, Past, system)
        # Without some of the actions there are fewer.
        self.assertTrue(is_always(system, ("mc", "pst"), "z"))
        self.assertEqual(always_certificate(system, ("mc", "pst"), "z")[0], "closed")
        self.assertIs(is_always_certificate(system, ("z",), "z", ("closed", ())), False)
        self.assertIs(is_never_certificate(system, ("z",), "z", ("closed", (), ())), False)

    def test_too_many_patterns_for_a_watch(self):
        system = crowded("m s t", "action ma m s t", "action z m t t, p w w, q w w, r w w")
        self.assertFalse(is_always(system, ("z",), "z"))
        for call in (is_never, never_certificate):
            check_error(self, TooMany, {"limit": 400}, call, system, ("ma",), "z")
        check_error(self, TooMany, {"limit": 400}, Past, system)
        self.assertIs(is_never_certificate(system, ("ma",), "z", ("closed", (), ())), False)

    def test_never_of_what_is_never_possible_needs_no_watch(self):
        system = crowded("m s t", "action ma m s s", "action z m t t, p w w, q w w, r w w")
        self.assertTrue(is_never(system, ("ma",), "z"))
        check_error(self, TooMany, {"limit": 400}, never_certificate, system, ("ma",), "z")
        self.assertIn(("ma", "z"), Past(system).never)


def crowded(agent, *lines):
    """A system of three agents that go on through five states one by one, another agent and some actions."""
    steps = [f"action {one}{begin}{end} {one} {begin} {end}" for one in "pqr" for begin, end in ("st", "tu", "uv", "vw")]
    return System.from_lines("agent p s t u v w", "agent q s t u v w", "agent r s t u v w", "agent " + agent, *steps, *lines)


if __name__ == "__main__":
    unittest.main()
