"""Tests of watched runs, watched patterns and what is ahead of them: promises 9.1 to 9.3, and the class of stage 9."""

import itertools
import random
import unittest

from groupclocks.base.systems import System
from groupclocks.clocks import watch as module
from groupclocks.clocks.watch import Watch
from groupclocks.errors import InvalidNumber, InvalidOperation, InvalidRun, InvalidSystem, UnknownName
from groupclocks.runs.runs import Run
from tests import slow
from tests.samples import (
    ALONE, LOCK, MAIL, MIXED, NO_TUPLES, SERVE, TUPLES, TWINS, VALUES, check_equality, check_error, check_examples,
    check_fixed, check_not_iterable, without_kind,
)

EXAMPLE = """
>>> [watch.tags(post, 1), watch.ahead("get", behind)]
[{('letter', 0): 'behind', ('letter', 1): 'told', ('p', 0): 'told', ('q', 0): 'behind'}, (((('q', 'at', 'behind'),), (('letter', 'sent', 'behind', 1),)), ((('q', 'at', 'behind'),), (('letter', 'sent', 'fresh', 1),)), ((('q', 'at', 'behind'),), (('letter', 'sent', 'told', 1),)), ((('q', 'at', 'fresh'),), (('letter', 'sent', 'behind', 1),)), ((('q', 'at', 'fresh'),), (('letter', 'sent', 'told', 1),)))]
>>> [watch.first("send", ((("p", "at", "told"),), (("letter", "sent", "fresh", 1),))), watch.first("send", behind), watch.certificate((behind,))[1:]]
[((('p', 'at'),), (('letter', 'blank', 1), ('letter', 'sent', 1))), None, ((1,), (('send', (0,)), ('get', (0,))), 0)]
"""
POST = Run(MAIL, (2,), (("send", (0,)), ("send", (1,)), ("get", (1,)), ("get", (0,))))
WATCH = Watch(MAIL, ("send",), barred=("send",))
BEHIND = ((("q", "at", "behind"),), ())
EMPTY = ((), ())
NINES = int("9" * 60)
# No watched patterns of MAIL.
NO_PATTERNS = (
    (), ((),), ((), (), ()), [(), ()], ([], ()), ((), []), (None, ()), ((), None), (((),), ()), ((), ((),)), ((("q", "at"),), ()), ((("q", "at", "behind", 1),), ()),
    ((["q", "at", "behind"],), ()), ((("q", "at", "Behind"),), ()), ((("q", "at", "at"),), ()), ((("q", "on", "told"),), ()), ((("q", "told", "at"),), ()),
    ((("letter", "sent", "told"),), ()), ((("r", "at", "told"),), ()), ((("q", "at", None),), ()), ((("q", "at", 1),), ()), ((("q", "at", ["told"]),), ()),
    ((("q", "at", "behind"), ("p", "at", "behind")), ()), ((("q", "at", "behind"), ("q", "at", "told")), ()), ((("q", "at", "told"), ("q", "at", "told")), ()),
    ((), (("letter", "sent", 1),)), ((), (("letter", "sent", "told"),)), ((), (("letter", "sent", "told", 0),)), ((), (("letter", "sent", "told", -1),)),
    ((), (("letter", "sent", "told", True),)), ((), (("letter", "sent", "told", None),)), ((), (("letter", "sent", "told", "1"),)), ((), (("letter", "sent", "told", 10 ** 60),)),
    ((), (("letter", "sent", "told", 10 ** 99),)), ((), (("letter", "sent", "other", 1),)), ((), (("p", "at", "told", 1),)), ((), (("letter", "gone", "told", 1),)),
    ((), (("letter", "sent", "told", 1), ("letter", "sent", "fresh", 1))), ((), (("letter", "sent", "told", 1), ("letter", "sent", "told", 2))),
    ((), (["letter", "sent", "told", 1],)), ((), (("letter", "sent", "told", 1, 1),)), ((), (("letter", "sent", ("told",), 1),)), ((("q", "at", "told"),), (("q", "at", "told", 1),)),
)
# No ascending tuples of names of actions of MAIL.
NO_NAMES = without_kind(NO_TUPLES, type(None)) + list(TUPLES[1:]) + [
    ["send"], ("Send",), ("send", "get"), ("send", "send"), ("get", "take"), ("letter",), ("get", None), ("get", True), (("get",),), "get", {"get": 1}, (MAIL["get"],),
]


def all_watches():
    """Several watches."""
    for system in (SERVE, LOCK, MAIL, TWINS, ALONE, MIXED):
        names = system.names
        rows = [one for many in range(len(names) + 1) for one in itertools.combinations(names, many)]
        source = random.Random(len(names))
        for starts in rows[1:]:
            for _ in range(2):
                yield Watch(system, starts, barred=source.choice(rows), carriers=source.choice(rows))
    for seed in range(30):
        system, source = slow.random_system(seed, 2, 1, 2, 3), random.Random(seed)
        rows = [one for many in range(len(system) + 1) for one in itertools.combinations(system.names, many)]
        yield Watch(system, source.choice(rows[1:]), barred=source.choice(rows), carriers=source.choice(rows))


def numbers_of(system, most):
    """Numbers of members for small walks."""
    return slow.all_numbers(system, most) if len(slow.start_of(system, (most,) * len(system.pools))) < 5 else slow.all_numbers(system, 2)


class ExampleTest(unittest.TestCase):
    def test_constant(self):
        self.assertEqual(module.TAGS, ("fresh", "behind", "told"))

    def test_examples(self):
        check_examples(self, EXAMPLE, {"watch": WATCH, "post": POST, "behind": BEHIND})

    def test_properties(self):
        watch = Watch(LOCK, ("give", "take"), carriers=("work",))
        self.assertEqual((watch.system, watch.starts, watch.barred, watch.carriers), (LOCK, ("give", "take"), (), ("work",)))
        self.assertEqual((str(watch), str(WATCH)), ("watch of 2 starts, 0 barred, 1 carriers", "watch of 1 starts, 1 barred, 0 carriers"))

    def test_actions_in_several_places(self):
        watch = Watch(MAIL, ("get", "send"), barred=("get", "send"), carriers=("get", "send"))
        self.assertEqual(watch.tags(POST, 3), {("letter", 0): "told", ("letter", 1): "fresh", ("p", 0): "fresh", ("q", 0): "told"})
        check_error(self, InvalidOperation, {}, watch.tags, POST, 2)
        self.assertEqual(watch.ahead("get", EMPTY), ())
        self.assertEqual(watch.first("get", EMPTY), ((("q", "at"),), (("letter", "sent", 1),)))


class TagsTest(unittest.TestCase):
    def test_every_watched_run(self):
        for watch in all_watches():
            system = watch.system
            known = random.Random(9).sample(sorted(slow.all_watched_patterns(system, 1)), 3)
            for numbers in numbers_of(system, 2):
                for events, _ in slow.all_runs(system, numbers, 3):
                    run, pasts = Run(system, numbers, events), slow.all_pasts(system, events)
                    for index in range(len(events)):
                        self.check_tags(watch, run, index, pasts, known)

    def check_tags(self, watch, run, index, pasts, known):
        """Check the tags of a run with this event as the watched one, and which of the known patterns it matches."""
        if run[index][0] not in watch.starts:
            check_error(self, InvalidNumber, {"given": index}, watch.tags, run, index)
            check_error(self, InvalidNumber, {"given": index}, watch.is_match, run, index, None)
            return
        if any(event[0] in watch.barred for event in run.events[index + 1:]):
            check_error(self, InvalidOperation, {}, watch.tags, run, index)
            check_error(self, InvalidOperation, {}, watch.is_match, run, index, EMPTY)
            return
        tagged = slow.tagged_at_end(watch.system, run.numbers, run.events, index, watch.carriers)
        tags = watch.tags(run, index)
        self.assertEqual(list(tags.items()), sorted((who, tag) for who, (_, tag) in tagged.items()))
        met = {who for at, event in enumerate(run.events) if at == index or index in pasts[at] for who, _, _ in slow.people_of(watch.system, event)}
        self.assertEqual({who for who, tag in tags.items() if tag != "fresh"}, met)
        for pattern in known:
            self.assertIs(watch.is_match(run, index, pattern), slow.does_match(tagged, pattern))

    def test_who_is_told(self):
        events = (("ask", (0,)), ("think", (1,)), ("reply", (0,)), ("ask", (1,)))
        run = Run(SERVE, (3,), events)
        for carriers, tags in (
            ((), ("told", "behind", "fresh", "told")), (("ask",), ("told", "told", "fresh", "told")), (("reply",), ("told", "behind", "fresh", "told")),
        ):
            watch = Watch(SERVE, ("ask",), carriers=carriers)
            self.assertEqual(tuple(watch.tags(run, 0).values()), tags)
        self.assertEqual(tuple(Watch(SERVE, ("ask",)).tags(run, 3).values()), ("fresh", "told", "fresh", "told"))
        self.assertEqual(tuple(Watch(SERVE, ("think",)).tags(run, 1).values()), ("fresh", "told", "fresh", "behind"))
        self.assertEqual(tuple(Watch(SERVE, ("think",), carriers=("ask", "reply")).tags(run, 1).values()), ("fresh", "told", "fresh", "told"))

    def test_how_many_have_a_tag(self):
        run = Run(MAIL, (5,), tuple(("send", (number,)) for number in range(4)) + (("get", (0,)), ("get", (1,))))
        watch = Watch(MAIL, ("send",))
        for state, tag, number in (("sent", "behind", 2), ("used", "fresh", 1), ("used", "told", 1), ("sent", "told", 0), ("blank", "fresh", 1), ("sent", "fresh", 0)):
            for asked in (1, 2, 3):
                self.assertIs(watch.is_match(run, 1, ((), (("letter", state, tag, asked),))), asked <= number)

    def test_wrong_runs_and_indices(self):
        for value in without_kind(VALUES, Run) + [Run(SERVE, (1,)), Run(MAIL.without(("get",)), (2,)), POST.events]:
            check_error(self, InvalidRun, {}, WATCH.tags, value, None)
            check_error(self, InvalidRun, {}, WATCH.is_match, value, None, None)
        for value in VALUES + (4, -1, -4, 2, 3, True, False, 10 ** 60):
            if not (type(value) is int and value in (0, 1)):
                check_error(self, InvalidNumber, {"given": value}, WATCH.tags, POST, value)
                check_error(self, InvalidNumber, {"given": value}, WATCH.is_match, POST, value, None)
        check_error(self, InvalidOperation, {}, WATCH.tags, POST, 0)
        check_error(self, InvalidOperation, {}, WATCH.is_match, POST, 0, BEHIND)
        self.assertIs(WATCH.is_match(POST, 1, BEHIND), True)

    def test_tags_are_not_shared(self):
        tags = WATCH.tags(POST, 1)
        tags.clear()
        self.assertEqual(len(WATCH.tags(POST, 1)), 4)


class PatternTest(unittest.TestCase):
    def test_patterns(self):
        for value in (EMPTY, BEHIND, ((("p", "at", "fresh"), ("q", "at", "told")), ()), ((), (("letter", "sent", "fresh", NINES), ("letter", "sent", "told", 1), ("letter", "used", "behind", 7)))):
            self.assertIs(WATCH.is_pattern(value), True, value)
        for value in VALUES + NO_PATTERNS:
            self.assertIs(WATCH.is_pattern(value), False, value)

    def test_no_pattern(self):
        for value in VALUES + NO_PATTERNS:
            check_error(self, InvalidOperation, {}, WATCH.ahead, "get", value)
            check_error(self, InvalidOperation, {}, WATCH.ahead, "send", value)
            check_error(self, InvalidOperation, {}, WATCH.first, "get", value)
            check_error(self, InvalidOperation, {}, WATCH.is_match, POST, 1, value)

    def test_no_action(self):
        for name in VALUES + ("take", "letter", MAIL["get"]):
            for call in (WATCH.ahead, WATCH.first):
                check_error(self, UnknownName, {"wanted": name}, call, name, None)
                check_error(self, UnknownName, {"wanted": name}, call, name, BEHIND)

    def test_each_match_lets_an_event_lead_to_a_match(self):
        for watch in all_watches():
            known = sorted(slow.all_watched_patterns(watch.system, 2))
            for pattern in random.Random(len(known)).sample(known, 3):
                for name in watch.system.names:
                    self.check_ahead(watch, name, pattern)

    def check_ahead(self, watch, name, pattern):
        """Check what is ahead of a pattern by an action, against all states of affairs."""
        system, found, first = watch.system, watch.ahead(name, pattern), watch.first(name, pattern)
        self.assertEqual(found, slow.least_of(found))
        if name in watch.barred:
            self.assertEqual(found, ())
        if name not in watch.starts:
            self.assertIsNone(first)
        for numbers in numbers_of(system, 3):
            events = [event for event in slow.all_events(system, numbers) if event[0] == name]
            if name not in watch.barred:
                for tagged in itertools.islice(slow.all_tagged(system, numbers), 0, 4000, 7):
                    ends = [slow.tagged_behind(system, tagged, event, watch.carriers) for event in events]
                    leads = any(end is not None and slow.does_match(end, pattern) for end in ends)
                    self.assertIs(any(slow.does_match(tagged, one) for one in found), leads)
            for states in slow.all_states(system, numbers) if name in watch.starts else ():
                fresh = {who: (state, "fresh") for who, state in states.items()}
                ends = [slow.tagged_behind(system, fresh, event, watch.carriers, True) for event in events]
                leads = any(end is not None and slow.does_match(end, pattern) for end in ends)
                self.assertIs(first is not None and slow.does_match(states, first), leads)

    def test_all_participants_are_asked_for(self):
        watch = Watch(SERVE, ("ask",), carriers=("think",))
        found = watch.ahead("think", EMPTY)
        self.assertEqual(found, tuple(((), (("client", "out", tag, 1),)) for tag in ("behind", "fresh", "told")))
        self.assertEqual(len(watch.ahead("ask", EMPTY)), 9)
        # Members in equal moves can change places: there are six ways for two of them, not nine.
        self.assertEqual(len(Watch(TWINS, ("both",)).ahead("both", EMPTY)), 6)
        for pattern in Watch(TWINS, ("both",)).ahead("three", EMPTY):
            self.assertEqual(sum(number for _, state, _, number in pattern[1] if state == "a"), 2)

    def test_many_digits(self):
        pattern = ((), (("letter", "sent", "fresh", NINES),))
        self.assertEqual(Watch(MAIL, ("get",)).first("get", pattern), ((("q", "at"),), (("letter", "sent", NINES + 1),)))
        self.assertIn(((("q", "at", "told"),), (("letter", "sent", "fresh", NINES + 1),)), WATCH.ahead("get", pattern))
        self.assertIsNone(WATCH.first("send", ((), (("letter", "sent", "told", NINES),))))

    def test_first(self):
        for pattern, first in (
            (EMPTY, ((("p", "at"),), (("letter", "blank", 1),))), (BEHIND, None), (((("p", "at", "told"),), ()), ((("p", "at"),), (("letter", "blank", 1),))),
            (((("q", "at", "told"),), ()), None), (((("p", "at", "fresh"),), ()), None), (((("q", "at", "fresh"),), ()), ((("p", "at"), ("q", "at")), (("letter", "blank", 1),))),
            (((), (("letter", "sent", "told", 1),)), ((("p", "at"),), (("letter", "blank", 1),))), (((), (("letter", "sent", "told", 2),)), None),
            (((), (("letter", "blank", "told", 1),)), None), (((), (("letter", "blank", "fresh", 3),)), ((("p", "at"),), (("letter", "blank", 4),))),
            (((), (("letter", "used", "behind", 1),)), None),
        ):
            self.assertEqual(WATCH.first("send", pattern), first, pattern)
        both = Watch(MAIL, ("get", "send"))
        self.assertEqual(both.first("get", ((("p", "at", "fresh"),), (("letter", "blank", "fresh", 1),))), ((("p", "at"), ("q", "at")), (("letter", "blank", 1), ("letter", "sent", 1))))
        lone = Watch(ALONE, ("left",))
        self.assertEqual(lone.first("left", ((("p", "s", "told"),), ())), None)
        self.assertEqual(lone.first("left", ((("p", "t", "told"), ("q", "s", "fresh")), ())), ((("p", "s"), ("q", "s")), ()))

    def test_first_by_an_action_that_does_not_start(self):
        told = ((("q", "at", "told"),), ())
        for pattern in (EMPTY, BEHIND, told, ((("p", "at", "fresh"),), ()), ((), (("letter", "used", "told", 1),))):
            self.assertIsNone(WATCH.first("get", pattern))
            self.assertIsNone(Watch(MAIL, ("send",), barred=("get",), carriers=("get",)).first("get", pattern))
        self.assertEqual(Watch(MAIL, ("get",)).first("get", told), ((("q", "at"),), (("letter", "sent", 1),)))
        for value in (None, ((("q", "at"),), ()), [told]):
            check_error(self, InvalidOperation, {}, WATCH.first, "get", value)
        check_error(self, UnknownName, {"wanted": "fly"}, WATCH.first, "fly", None)


class ErrorTest(unittest.TestCase):
    def test_no_system(self):
        for value in without_kind(VALUES, System):
            check_error(self, InvalidSystem, {}, Watch, value, None)
            check_error(self, InvalidSystem, {}, Watch, value, None, barred=0, carriers=0)

    def test_no_names(self):
        for value in NO_NAMES + [None]:
            check_error(self, InvalidOperation, {}, Watch, MAIL, value)
            check_error(self, InvalidOperation, {}, Watch, MAIL, ("send",), barred=value)
            check_error(self, InvalidOperation, {}, Watch, MAIL, ("send",), carriers=value)
            check_error(self, InvalidOperation, {}, Watch, MAIL, ("send",), barred=("get",), carriers=value)
        check_error(self, InvalidOperation, {}, Watch, MAIL, ())
        self.assertEqual(Watch(MAIL, ("send",), barred=(), carriers=()), Watch(MAIL, ("send",)))
        self.assertEqual(Watch(MAIL, ("get", "send"), barred=("get", "send"), carriers=("get", "send")).starts, ("get", "send"))

    def test_equality(self):
        check_equality(self, WATCH, Watch(MAIL, ("send",), barred=("send",), carriers=()), True)
        for other in (Watch(MAIL, ("send",)), Watch(MAIL, ("get",), barred=("send",)), Watch(MAIL, ("send",), barred=("send",), carriers=("get",)),
                      Watch(MAIL, ("send",), barred=("get", "send")), Watch(MAIL.without(("get",)), ("send",), barred=("send",)), str(WATCH), WATCH.starts) + VALUES:
            check_equality(self, WATCH, other, False)

    def test_it_never_changes(self):
        check_fixed(self, WATCH, "system", "starts", "barred", "carriers")
        check_not_iterable(self, WATCH)


if __name__ == "__main__":
    unittest.main()
