"""Tests of a tracer: promises 13.1 to 13.4, and the class of stage 13."""

import itertools
import random
import unittest

from groupclocks.base.systems import System
from groupclocks.clocks.clocks import Clocks
from groupclocks.errors import (
    InvalidClocks, InvalidNumber, InvalidOperation, InvalidRun, InvalidSystem, NothingToUndo, NotPossible, TooMany,
)
from groupclocks.order.pairs import Order
from groupclocks.runs.runs import Run
from groupclocks.trace import tracer as module
from groupclocks.trace.meetings import Meetings
from groupclocks.trace.tracer import Tracer
from tests import judge, slow
from tests.samples import (
    ALONE, LOCK, MAIL, MIXED, NO_TUPLES, SERVE, TUPLES, TWINS, VALUES, check_equality, check_error, check_examples,
    check_fixed, check_not_iterable, is_like, without_kind,
)

EXAMPLE = """
>>> [tracer.add(event) for event in (("ask", (0,)), ("think", (1,)), ("reply", (0,)), ("ask", (1,)))]
[0, 1, 2, 3]
>>> [tracer.stays(("client", 1)), tracer.stays(("server", 0)), tracer.told]
[(('out', None, 3), ('in', 3, None)), (('idle', None, 0), ('busy', 0, 2), ('idle', 2, 3), ('busy', 3, None)), ((1,), (0,), (2,), (3,))]
>>> [tracer.can_meet((first, "in"), (second, "in")), tracer.must_meet((first, "in"), (second, "out")), tracer.meeting((first, "in"), (second, "in"))]
[False, True, None]
>>> [tracer.undo(many=3), tracer.can_meet((first, "out"), (("server", 0), "busy")), tracer.is_meeting(((0,), 1), (first, "in")), tracer.parting((first, "in"))]
[1, False, True, None]
"""
FIRST, SECOND, SERVER = ("client", 0), ("client", 1), ("server", 0)
EVENTS = (("ask", (0,)), ("think", (1,)), ("reply", (0,)), ("ask", (1,)))


def serving(clocks=None):
    """The tracer of the example, with its events."""
    tracer = Tracer(SERVE, (2,), clocks=clocks)
    for event in EVENTS:
        tracer.add(event)
    return tracer


def traced(system, numbers, events):
    """A tracer with these events."""
    tracer = Tracer(system, numbers)
    for event in events:
        tracer.add(event)
    return tracer


def is_extension(pasts, order):
    """Whether a permutation of the indices has each behind its past."""
    return all(pasts[one] <= set(order[:at]) for at, one in enumerate(order))


def moments(system, numbers, events, order):
    """The states of affairs at all moments of an order."""
    states = slow.start_of(system, numbers)
    found = [states]
    for index in order:
        states = slow.behind(system, states, events[index])
        found.append(states)
    return found


def small_tracers():
    """Several tracers with few events."""
    source = random.Random(4)
    systems = [SERVE, LOCK, MAIL, TWINS, ALONE, MIXED] + [slow.random_system(seed, 2, 2, 3, 4) for seed in range(30)]
    for system in systems:
        for _ in range(4):
            numbers, events = tuple(source.randint(1, 2) for _ in system.pools), ()
            states = slow.start_of(system, numbers)
            for _ in range(source.randint(0, 5)):
                possible = [event for event in slow.all_events(system, numbers) if slow.behind(system, states, event) is not None]
                if possible:
                    events += (source.choice(possible),)
                    states = slow.behind(system, states, events[-1])
            yield system, numbers, events


class ExampleTest(unittest.TestCase):
    def test_examples(self):
        tracer = Tracer(SERVE, (2,), clocks=Clocks(Order(SERVE), (("ask", "reply"),)))
        check_examples(self, EXAMPLE, {"tracer": tracer, "first": FIRST, "second": SECOND})
        self.assertEqual(module.MAX_TOGETHER, 3)

    def test_what_is_recorded(self):
        tracer = Tracer(SERVE, (2,))
        self.assertEqual((len(tracer), bool(tracer), str(tracer), tracer.record, tracer.clocks), (0, False, "tracer of 0 events", Run(SERVE, (2,)), None))
        same = tracer
        tracer += EVENTS[0]
        self.assertIs(tracer, same)
        self.assertEqual((len(tracer), bool(tracer), str(tracer), tracer[0]), (1, True, "tracer of 1 events", EVENTS[0]))
        self.assertEqual([tracer.add(event) for event in EVENTS[1:]], [1, 2, 3])
        self.assertEqual((tracer.record, tracer[3]), (Run(SERVE, (2,), EVENTS), EVENTS[3]))
        check_fixed(self, tracer, "record", "clocks", "told")
        check_not_iterable(self, tracer)

    def test_told(self):
        clocks = Clocks(Order(SERVE), (("ask", "reply"),))
        tracer = serving(clocks)
        self.assertEqual((tracer.told, tracer.clocks), (clocks.stamps(Run(SERVE, (2,), EVENTS)), clocks))
        self.assertEqual(Tracer(SERVE, (2,), clocks=clocks).told, ())
        with self.assertRaises(InvalidOperation):
            serving().told

    def test_equality(self):
        clocks = Clocks(Order(SERVE), (("ask", "reply"),))
        tracer = serving(clocks)
        check_equality(self, tracer, serving(Clocks(Order(System.from_lines(*SERVE.lines)), (("ask", "reply"),))), True)
        for other in (serving(), serving(Clocks(Order(SERVE), (("ask",),))), Tracer(SERVE, (2,), clocks=clocks), tracer.record, str(tracer)) + VALUES:
            check_equality(self, tracer, other, False)
        check_equality(self, serving(), serving(), True)
        check_equality(self, Tracer(SERVE, (2,)), Tracer(SERVE, (3,)), False)


class StaysTest(unittest.TestCase):
    def test_stays_by_the_words(self):
        for system, numbers, events in small_tracers():
            tracer, ways = traced(system, numbers, events), moments(system, numbers, events, range(len(events)))
            for who in slow.start_of(system, numbers):
                states = [states[who] for states in ways]
                changes = [at for at in range(len(events)) if states[at] != states[at + 1]]
                begins, ends = [None, *changes], [*changes, None]
                expected = tuple((states[0 if begin is None else begin + 1], begin, end) for begin, end in zip(begins, ends))
                self.assertEqual(tracer.stays(who), expected)

    def test_no_events(self):
        tracer = Tracer(SERVE, (1,))
        self.assertEqual((tracer.stays(FIRST), tracer.stays(SERVER)), ((("out", None, None),), (("idle", None, None),)))
        self.assertEqual((tracer.meeting((FIRST, "out")), tracer.parting((FIRST, "in")), tracer.parting((FIRST, "out"))), (((), 0), (), None))
        self.assertTrue(tracer.is_meeting(((), 0), (FIRST, "out")))
        self.assertTrue(tracer.is_parting((), (FIRST, "in"), (SERVER, "idle")))

    def test_moves_from_a_state_to_the_same_one(self):
        tracer = traced(SERVE, (2,), (("think", (1,)), ("think", (1,)), ("ask", (1,)), ("reply", (1,)), ("think", (1,))))
        self.assertEqual(tracer.stays(SECOND), (("out", None, 2), ("in", 2, 3), ("out", 3, None)))
        self.assertEqual(tracer.stays(FIRST), (("out", None, None),))

    def test_no_participant(self):
        tracer = serving()
        for value in NO_TUPLES + TUPLES + (("client", 2), ("client", -1), ("client", True), ("server", 1), ("server", False), ("server", None), ("fly", 0),
                                           ("ask", 0), (0, "client"), ["client", 0], ("client", (0,)), ("client", 10 ** 60), ("client", 0, 0), (("client", 0),), (["client"], 0), ({}, 0), (SERVE, 0), (("client",), 0)):
            check_error(self, InvalidOperation, {}, tracer.stays, value)


class MeetingTest(unittest.TestCase):
    def test_all_orders(self):
        source, found = random.Random(6), set()
        for system, numbers, events in small_tracers():
            tracer, pasts = traced(system, numbers, events), slow.all_pasts(system, events)
            orders = [order for order in itertools.permutations(range(len(events))) if is_extension(pasts, order)]
            ways = {order: moments(system, numbers, events, order) for order in orders}
            people = sorted(slow.start_of(system, numbers))
            for many in (1, 2, 3):
                chosen = list(itertools.combinations(people, many))
                for group in source.sample(chosen, min(len(chosen), 4)):
                    wishes = tuple((who, source.choice(system.states(who[0]))) for who in source.sample(group, many))
                    found.add(self.check_wishes(tracer, ways, wishes))
        self.assertEqual(found, {(1, False, False), (1, True, True), *[(many, *one) for many in (2, 3) for one in ((False, False), (True, False), (True, True))]})

    def check_wishes(self, tracer, ways, wishes):
        """Check what is told of wishes against all moments of all orders."""
        together = {order: [all(states[who] == state for who, state in wishes) for states in row] for order, row in ways.items()}
        can, must = any(any(row) for row in together.values()), all(any(row) for row in together.values())
        self.assertEqual((tracer.can_meet(*wishes), tracer.must_meet(*wishes)), (can, must))
        meeting, parting = tracer.meeting(*wishes), tracer.parting(*wishes)
        self.assertEqual((meeting is not None, parting is not None), (can, not must))
        if can:
            self.assertTrue(together[meeting[0]][meeting[1]])
        if not must:
            self.assertFalse(any(together[parting]))
        for order in itertools.permutations(range(len(tracer))):
            self.assertIs(tracer.is_parting(order, *wishes), order in ways and not any(together[order]))
            for number in range(len(tracer) + 1):
                self.assertIs(tracer.is_meeting((order, number), *wishes), order in ways and together[order][number])
        return len(wishes), can, must

    def test_stays_that_lie_in_any_way(self):
        """Pasts and stays are drawn, so that three participants depend on one another in all ways."""
        found = set()
        for seed in range(4000):
            source = random.Random(seed)
            pasts, rows = self.drawn(source, source.choice((2, 3, 3)), source.randint(3, 11))
            if pasts is not None:
                found.add(self.check_rows(pasts, rows))
        self.assertEqual(len(found), 6)

    def drawn(self, source, many, number):
        """Some pasts, as bits, and the stays of so many participants in them."""
        chains, latest, pasts = [source.randrange(many) for _ in range(number)], {}, []
        for index, chain in enumerate(chains):
            earlier = [latest[chain]] if chain in latest else []
            past = 0
            for at in earlier + [at for at in range(index) if source.random() < 0.15]:
                past |= pasts[at] | 1 << at
            pasts.append(past)
            latest[chain] = index
        rows = []
        for chain in range(many):
            changes = [None] * source.randint(0, 1) + [at for at in range(number) if chains[at] == chain and source.random() < 0.8] + [None]
            rows.append([(begin, end) for begin, end in zip(changes[::2], changes[1::2])])
        return tuple(pasts), rows

    def check_rows(self, pasts, rows):
        """Check what is found against all ways through the sets of events that can be done."""
        meetings = Meetings(Run(ALONE, ()), ())
        meetings._pasts, meetings._rows = pasts, rows
        everything = (1 << len(pasts)) - 1

        def is_bad(done):
            return all(any((begin is None or done >> begin & 1) and (end is None or not done >> end & 1) for begin, end in row) for row in rows)

        def reached(is_allowed):
            found, rest = {0}, [0] if is_allowed(0) else []
            while rest:
                done = rest.pop()
                for at, past in enumerate(pasts):
                    more = done | 1 << at
                    if not done >> at & 1 and not past & ~done and more not in found and is_allowed(more):
                        found.add(more)
                        rest.append(more)
            return found if is_allowed(0) else set()

        can, must = any(is_bad(done) for done in reached(lambda done: True)), everything not in reached(lambda done: not is_bad(done))
        self.assertEqual((meetings.common() is not None, meetings.must_meet()), (can, must))
        meeting, parting = meetings.meeting(), meetings.parting()
        self.assertEqual((meeting is None, parting is None), (not can, must))
        for order in [one for one in ((meeting or (None,))[0], parting) if one is not None]:
            self.assertEqual(sorted(order), list(range(len(pasts))))
            self.assertTrue(all(not pasts[one] & ~sum(1 << other for other in order[:at]) for at, one in enumerate(order)))
        if can:
            self.assertTrue(is_bad(sum(1 << at for at in meeting[0][:meeting[1]])))
        if not must:
            self.assertFalse(any(is_bad(sum(1 << at for at in parting[:many])) for many in range(len(pasts) + 1)))
        return len(rows), can, must

    def test_stays_that_only_touch(self):
        # In one event p leaves s and q comes to t.
        touch = System.from_lines("agent p s t", "agent q s t", "action go p s t, q s t")
        tracer = traced(touch, (), (("go", ()),))
        wishes = ((("p", 0), "s"), (("q", 0), "t"))
        self.assertEqual((tracer.can_meet(*wishes), tracer.must_meet(*wishes), tracer.meeting(*wishes), tracer.parting(*wishes)), (False, False, None, (0,)))
        wishes = ((("p", 0), "t"), (("q", 0), "t"))
        self.assertEqual((tracer.must_meet(*wishes), tracer.meeting(*wishes), tracer.parting(*wishes)), (True, ((0,), 1), None))

    def test_can_but_must_not(self):
        tracer = traced(ALONE, (), (("left", ()), ("right", ())))
        wishes = ((("p", 0), "t"), (("q", 0), "s"))
        self.assertEqual((tracer.can_meet(*wishes), tracer.must_meet(*wishes), tracer.meeting(*wishes), tracer.parting(*wishes)), (True, False, ((0, 1), 1), (1, 0)))

    def test_values_near_right_ones(self):
        tracer, wishes = serving(), ((FIRST, "out"), (SERVER, "idle"))
        pasts = slow.all_pasts(SERVE, EVENTS)
        orders = [order for order in itertools.permutations(range(4)) if is_extension(pasts, order)]
        together = {order: [all(states[who] == state for who, state in wishes) for states in moments(SERVE, (2,), EVENTS, order)] for order in orders}
        for value in judge.near(tracer.meeting(*wishes)):
            right = (type(value) is tuple and len(value) == 2 and type(value[1]) is int and type(value[0]) is tuple and all(type(one) is int for one in value[0])
                     and value[0] in orders and 0 <= value[1] <= 4 and together[value[0]][value[1]])
            self.assertIs(tracer.is_meeting(value, *wishes), right, value)
        wishes = ((FIRST, "in"), (SECOND, "in"))
        for value in judge.near(tracer.parting(*wishes)):
            self.assertIs(tracer.is_parting(value, *wishes), type(value) is tuple and all(type(one) is int for one in value) and value in orders, value)
        for value in VALUES + (((0, 1, 2, 3), True), ((0, True, 2, 3), 0), ((0, 1, 2, 3), -1), ((0, 1, 2, 3), 5), ((0, 1, 2, 3), 10 ** 60), ((0, 1, 2), 1), ((0, 1, 2, 3, 4), 1)):
            self.assertIs(tracer.is_meeting(value, (FIRST, "out")), False, value)
            self.assertIs(tracer.is_parting(value, *wishes), False, value)

    def test_no_wishes(self):
        tracer = serving()
        other = Tracer(SERVE, (5,))
        right, calls = (FIRST, "in"), [tracer.can_meet, tracer.must_meet, tracer.meeting, tracer.parting]
        calls += [lambda *wishes: tracer.is_meeting(((0, 1, 2, 3), 0), *wishes), lambda *wishes: tracer.is_parting((0, 1, 2, 3), *wishes)]
        for call in calls:
            check_error(self, InvalidOperation, {}, call)
            check_error(self, InvalidOperation, {}, call, right, right)
            check_error(self, InvalidOperation, {}, call, right, (FIRST, "out"))
            check_error(self, InvalidOperation, {}, call, right, (SECOND, "in"), (SERVER, "busy"), (("client", 2), "in"))
            for value in VALUES + ((FIRST, "idle"), (FIRST, "In"), (FIRST, None), (FIRST, ("in",)), (FIRST,), (FIRST, "in", 1), [FIRST, "in"], (("client", True), "in"),
                                   (["client", 0], "in"), (("client", 2), "in"), ("client", "in"), (SERVER, "in"), (("server", False), "idle"), (SERVER, SERVE)):
                check_error(self, InvalidOperation, {}, call, value)
                check_error(self, InvalidOperation, {}, call, right, value)
        four = tuple((("client", number), "out") for number in range(4))
        check_error(self, InvalidOperation, {}, other.can_meet, *four)
        self.assertTrue(other.must_meet(*four[:3]))


class UndoTest(unittest.TestCase):
    def test_undo(self):
        tracer = serving(Clocks(Order(SERVE), (("ask", "reply"),)))
        self.assertEqual([tracer.undo(many=0), tracer.undo(), tracer.undo(many=2), tracer.undo(many=1), tracer.undo(many=0)], [4, 3, 1, 0, 0])
        check_error(self, NothingToUndo, {"many": 1}, tracer.undo)
        self.assertEqual(tracer, Tracer(SERVE, (2,), clocks=tracer.clocks))

    def test_events_that_are_taken_back(self):
        source = random.Random(11)
        for system, numbers, events in small_tracers():
            tracer = traced(system, numbers, events)
            many = source.randint(0, len(events))
            tracer.record.past(0) if events else None
            self.assertEqual(tracer.undo(many=many), len(events) - many)
            left = Run(system, numbers, events[:len(events) - many])
            self.assertEqual((tracer.record, tracer.record.finals), (left, left.finals))
            for event in events[len(events) - many:]:
                tracer.add(event)
            run = Run(system, numbers, events)
            self.assertEqual((tracer.record, [tracer.record.past(at) for at in range(len(events))]), (run, [run.past(at) for at in range(len(events))]))

    def test_no_number(self):
        tracer = serving()
        for value in VALUES + (-1, 10 ** 60, True, False, None):
            if not (type(value) is int and 0 <= value < 10 ** 60):
                check_error(self, InvalidNumber, {"given": value}, lambda: tracer.undo(many=value))
        for value in (5, 10 ** 60 - 1):
            check_error(self, NothingToUndo, {"many": value}, lambda: tracer.undo(many=value))
        self.assertEqual(tracer, serving())

    def test_trials(self):
        tracer = serving()
        with tracer.trial() as same:
            self.assertIs(same, tracer)
            tracer.add(("think", (0,)))
            with tracer.trial():
                tracer.undo(many=3)
                with tracer.trial() as inner:
                    inner += ("reply", (0,)) if tracer.undo(many=0) == 1 else ("think", (1,))
                self.assertEqual(len(tracer), 2)
            self.assertEqual(len(tracer), 5)
        self.assertEqual(tracer, serving())
        self.assertEqual(tracer.undo(), 3)

    def test_one_trial_for_several_blocks(self):
        tracer = serving()
        trial = tracer.trial()
        tracer.undo()
        with trial:
            tracer.undo()
            with trial:
                tracer.undo()
            self.assertEqual(len(tracer), 2)
        self.assertEqual(len(tracer), 3)
        with trial as same:
            same.undo(many=3)
        self.assertEqual(tracer, traced(SERVE, (2,), EVENTS[:3]))

    def test_a_block_that_ends_by_an_error(self):
        tracer = serving()
        with self.assertRaises(NotPossible) as caught:
            with tracer.trial():
                tracer.undo()
                tracer.add(("reply", (0,)))
        self.assertEqual((caught.exception.at, tracer), (3, serving()))
        with self.assertRaises(ZeroDivisionError):
            tracer.during(lambda same: same.undo() // 0)
        self.assertEqual(tracer, serving())

    def test_during(self):
        tracer = serving()
        self.assertEqual(tracer.during(lambda same: (same is tracer, same.add(("think", (0,))), len(same))), (True, 4, 5))
        self.assertEqual(tracer.during(lambda same: same.during(lambda again: again.undo(many=4))), 0)
        self.assertEqual(tracer, serving())

    def test_twins(self):
        tracer = serving(Clocks(Order(SERVE), (("ask",),)))
        twin = tracer.twin()
        self.assertIsNot(twin, tracer)
        check_equality(self, tracer, twin, True)
        twin.add(("think", (0,)))
        tracer.undo()
        self.assertEqual((len(tracer), len(twin)), (3, 5))
        with tracer.trial():
            self.assertEqual(tracer.twin().undo(many=3), 0)
            inner = tracer.twin()
            tracer.undo()
        self.assertEqual((len(tracer), len(inner)), (3, 3))
        inner.undo()
        self.assertEqual((len(tracer), len(inner)), (3, 2))


class ErrorTest(unittest.TestCase):
    def test_wrong_arguments(self):
        for value in without_kind(VALUES, System):
            check_error(self, InvalidSystem, {}, Tracer, value, None)
        for value in NO_TUPLES + TUPLES + ((-1,), (2001,), (1, 1), [1], (True,)):
            if not is_like(value, (1,)):
                check_error(self, InvalidRun, {}, Tracer, SERVE, value)
                check_error(self, InvalidRun, {}, lambda: Tracer(SERVE, value, clocks=0))
        for value in without_kind(VALUES, Clocks) + [Clocks(Order(MAIL), ()), Clocks(Order(SERVE.without(("think",))), ())]:
            if value is not None:
                check_error(self, InvalidClocks, {}, lambda: Tracer(SERVE, (1,), clocks=value))

    def test_no_events(self):
        tracer = serving()
        before = tracer.twin()
        for value in VALUES + (("ask", (2,)), ("ask", ()), ("ask", (True,)), ("fly", ()), ["ask", (0,)], ("ask", [0]), ("think", (0, 1))):
            check_error(self, InvalidOperation, {}, tracer.add, value)
            with self.assertRaises(InvalidOperation):
                tracer += value
        check_error(self, NotPossible, {"at": 4}, tracer.add, ("ask", (0,)))
        with self.assertRaises(NotPossible):
            tracer += ("reply", (0,))
        self.assertEqual(tracer, before)

    def test_too_many_events(self):
        one = System.from_lines("agent p s", "action go p s s")
        tracer = traced(one, (), (("go", ()),) * 2000)
        check_error(self, TooMany, {"limit": 2000}, tracer.add, ("go", ()))
        check_error(self, InvalidOperation, {}, tracer.add, ("come", ()))
        self.assertEqual((len(tracer), tracer.add(tracer[0]) if tracer.undo() == 1999 else None), (2000, 1999))
        self.assertEqual((tracer.meeting((("p", 0), "s")), len(tracer.stays(("p", 0)))), ((tuple(range(2000)), 0), 1))

    def test_no_index(self):
        tracer = serving()
        for value in VALUES + (4, -1, True, False, 10 ** 60):
            if not (type(value) is int and 0 <= value < 4):
                check_error(self, InvalidNumber, {"given": value}, tracer.__getitem__, value)
        self.assertEqual([tracer[at] for at in range(4)], list(EVENTS))

    def test_what_was_told_does_not_change(self):
        tracer = serving()
        record, stays = tracer.record, tracer.stays(FIRST)
        tracer.undo(many=4)
        self.assertEqual((len(record), len(stays), len(tracer.record)), (4, 3, 0))
        record.finals.clear()
        self.assertEqual(len(record.finals), 3)


if __name__ == "__main__":
    unittest.main()
