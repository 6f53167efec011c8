"""Tests of carriers: promises 10.1 and 10.2, and what 0.17, 0.21, 0.24 and 0.25 say of them."""

import itertools
import random
import unittest

from groupclocks.base.systems import System
from groupclocks.clocks import carriers as module
from groupclocks.clocks.carriers import Carriers
from groupclocks.clocks.clocks import Clocks
from groupclocks.clocks.watch import Watch
from groupclocks.errors import InvalidOperation, TooMany
from groupclocks.order.groups import is_group
from groupclocks.order.pairs import Order
from groupclocks.runs.runs import Run
from tests import judge, slow
from tests.samples import (
    LOCK, MAIL, MIXED, NO_TUPLES, SERVE, TUPLES, TWINS, VALUES, check_equality, check_error, check_examples, check_fixed,
    check_not_iterable, without_kind,
)

EXAMPLE = """
>>> [letters.least_sets(), letters.greatest_sets(), letters.is_enough(()), letters.certificate(())[1], len(letters.certificate(())[2])]
[(('get',),), ((),), False, (2,), 4]
>>> letters.is_certificate((), ("run", (2,), (("send", (0,)), ("send", (1,)), ("get", (1,)), ("get", (0,)))))
True
>>> [Carriers(Order(SERVE), ("ask", "reply"), ("think",)).least_sets(), Carriers(Order(chain), ("a",), ("c",)).least_sets(), Carriers(Order(chain), ("a",), ("c",)).greatest_sets()]
[((),), (('b',),), (('c',),)]
"""
CHAIN = System.from_lines("agent p s", "agent q s", "agent x s", "agent y s", "action a p s s, x s s", "action b x s s, y s s", "action c q s s, y s s")
# The number of a reaches r by x or by y, either of which is enough: a happens once only.
EITHER = System.from_lines("agent p s t", "agent q s t u", "agent r s t u", "action a p s t, q s t", "action x q t u, r s t", "action y p t t, r t u", "action w r u u", "action z r u u")
LETTERS = Carriers(Order(MAIL), ("send",), ("get",))
POST = (("send", (0,)), ("send", (1,)), ("get", (1,)), ("get", (0,)))


def star(many):
    """A system in which one action is a group, beside so many others."""
    return System.from_lines("agent p s", "agent q s", "action a p s s", *[f"action b{letter} q s s" for letter in "abcdefg"[:many]])


# Systems drawn with these numbers have groups for which not all carriers are enough.
SEEDS = (2, 33, 72, 87, 91, 162, 180, 261, 393, 571)


def small_carriers():
    """Several carriers of small systems."""
    drawn = [slow.random_system(seed, 2, 2, 2, 3) for seed in range(30)] + [slow.linked_system(seed) for seed in SEEDS]
    for system in (SERVE, LOCK, MAIL, TWINS, CHAIN, EITHER, MIXED, *drawn):
        order, source = Order(system), random.Random(len(system))
        rows = [one for many in range(1, len(system) + 1) for one in itertools.combinations(system.names, many)]
        groups = [one for one in rows if is_group(order, one)]
        for group in source.sample(groups, min(len(groups), 2)):
            others = [name for name in system.names if name not in group]
            if len(others) <= 6:
                yield Carriers(order, group, tuple(name for name in others if source.random() < 0.6))


def all_sets(names):
    """All ascending tuples of some of the names."""
    return [one for many in range(len(names) + 1) for one in itertools.combinations(names, many)]


class ExampleTest(unittest.TestCase):
    def test_examples(self):
        check_examples(self, EXAMPLE, {"letters": LETTERS, "Carriers": Carriers, "Order": Order, "SERVE": SERVE, "chain": CHAIN})
        self.assertEqual(module.MAX_QUESTION, 6)

    def test_properties(self):
        carriers = Carriers(Order(SERVE), ("ask",), ("reply", "think"))
        self.assertEqual((carriers.system, carriers.group, carriers.asked, carriers.question), (SERVE, ("ask",), ("reply", "think"), ("reply", "think")))
        self.assertEqual((str(carriers), str(LETTERS)), ("carriers of 1 actions for 2 asked", "carriers of 1 actions for 1 asked"))
        self.assertEqual((LETTERS.question, Carriers(Order(LOCK), ("give", "take", "work"), ()).question), (("get",), ()))
        check_fixed(self, carriers, "system", "group", "asked", "question", "targets")
        check_not_iterable(self, carriers)

    def test_equality(self):
        check_equality(self, LETTERS, Carriers(Order(MAIL), ("send",), ("get",)), True)
        for other in (Carriers(Order(MAIL), ("send",), ()), Carriers(Order(MAIL), ("get",), ("send",)), LETTERS.group, str(LETTERS),
                      Carriers(Order(MAIL.with_action(type(MAIL["get"])("other", MAIL["get"].moves))), ("send",), ("get",))) + VALUES:
            check_equality(self, LETTERS, other, False)
        check_equality(self, Carriers(Order(LOCK), ("give",), ("work",)), Carriers(Order(LOCK), ("take",), ("work",)), False)
        check_equality(self, Carriers(Order(LOCK), ("give",), ("work",)), Carriers(Order(LOCK), ("give",), ("take",)), False)

    def test_nobody_is_asked(self):
        carriers = Carriers(Order(MAIL), ("send",), ())
        # The events of the group hand their number on among themselves, as they share p.
        self.assertEqual((carriers.least_sets(), carriers.greatest_sets(), str(carriers)), (((),), (), "carriers of 1 actions for 0 asked"))
        # In LOCK, take and give share the lock, but work does not.
        self.assertEqual(Carriers(Order(LOCK), ("take",), ()).least_sets(), ((),))

    def test_nobody_is_in_question(self):
        carriers = Carriers(Order(LOCK), ("give", "take", "work"), ())
        self.assertEqual((carriers.least_sets(), carriers.greatest_sets(), carriers.is_enough(())), (((),), (), True))
        kind, early, late = carriers.certificate(())
        self.assertEqual((kind, carriers.is_certificate((), (kind, early, late))), ("closed", True))

    def test_the_last_event_is_of_the_group(self):
        # Two tokens are handed on by others: the group itself may be told of its events only by them.
        ring = System.from_lines("pool x s t", "agent p u v", "agent q u v", "action a p u v, x s t", "action b p v u, q u v", "action c q v u, x t s")
        for name in ring.names:
            carriers = Carriers(Order(ring), (name,), ())
            for names in all_sets(carriers.question):
                found = carriers.certificate(names)
                self.assertIs(found[0] == "closed", carriers.is_enough(names))
                if found[0] == "run":
                    self.assertEqual(found[2][-1][0], name)
        lent = System.from_lines("agent p s t u", "agent q s t u", "action a p s t", "action b p t u, q s t", "action c q t u")
        lent = Carriers(Order(lent), ("a", "c"), ())
        self.assertEqual((lent.least_sets(), lent.greatest_sets()), ((("b",),), ((),)))
        self.assertEqual(lent.certificate(()), ("run", (), (("a", ()), ("b", ()), ("c", ()))))

    def test_targets(self):
        self.assertEqual(LETTERS.targets, tuple(sorted(judge.tagged_needs(MAIL, "send", ("behind", "fresh"), "behind") + judge.tagged_needs(MAIL, "get", ("behind", "fresh"), "behind"))))
        for carriers in small_carriers():
            every = [one for name in [*carriers.group, *carriers.asked] for one in judge.tagged_needs(carriers.system, name, ("behind", "fresh"), "behind")]
            self.assertEqual(carriers.targets, slow.least_of(every))


class TruthTest(unittest.TestCase):
    def test_certificates_by_the_words(self):
        """Each answer is shown by a certificate that is judged without the package."""
        forms = set()
        for carriers in small_carriers():
            for names in all_sets(carriers.question):
                found = carriers.certificate(names)
                forms.add(found[0])
                self.assertIs(carriers.is_enough(names), found[0] == "closed")
                self.assertIs(judged(carriers, names, found), True)
                self.assertIs(carriers.is_certificate(names, found), True)
        self.assertEqual(forms, {"closed", "run"})

    def test_no_short_run_contradicts(self):
        for carriers in small_carriers():
            system = carriers.system
            wrong = {names: set() for names in all_sets(carriers.question)}
            for numbers in slow.all_numbers(system, 2):
                for events, _ in itertools.islice(slow.all_runs(system, numbers, 5), 1500):
                    for names in wrong:
                        if judge.is_wrong_at_end(system, carriers.group, carriers.asked, names, numbers, events):
                            wrong[names].add(sum(numbers))
            for names, members in wrong.items():
                found = carriers.certificate(names)
                if members:
                    self.assertEqual(found[0], "run")
                    self.assertLessEqual(sum(found[1]), min(members))

    def test_as_few_members_as_possible(self):
        for carriers in small_carriers():
            for names in all_sets(carriers.question):
                found = carriers.certificate(names)
                if found[0] == "run" and 0 < sum(found[1]) < 4:
                    watch = Watch(carriers.system, carriers.group, barred=carriers.group, carriers=names)
                    for numbers in slow.all_numbers(carriers.system, sum(found[1]) - 1):
                        ends = slow.watched_ends(carriers.system, numbers, watch.starts, watch.barred, watch.carriers)
                        self.assertFalse(any(slow.does_match(end, target) for end in ends for target in carriers.targets))

    def test_least_and_greatest_sets(self):
        for carriers in small_carriers():
            rows = all_sets(carriers.question)
            enough = [one for one in rows if carriers.is_enough(one)]
            others = [one for one in rows if one not in enough]
            least = [one for one in enough if not any(set(other) < set(one) for other in enough)]
            greatest = [one for one in others if not any(set(other) > set(one) for other in others)]
            self.assertEqual((carriers.least_sets(), carriers.greatest_sets()), (tuple(sorted(least)), tuple(sorted(greatest))))
            # With more carriers, numbers are not less ([0.21]).
            for one in enough:
                self.assertTrue(all(other in enough for other in rows if set(one) <= set(other)))

    def test_values_near_right_ones(self):
        source = random.Random(3)
        for carriers in [LETTERS, Carriers(Order(CHAIN), ("a",), ("c",)), Carriers(Order(SERVE), ("ask", "reply"), ("think",)), *list(small_carriers())[30:40]]:
            words = judge.words_of(carriers.system)
            for names in all_sets(carriers.question)[:4]:
                every = list(judge.near(carriers.certificate(names), words))
                for value in source.sample(every, min(len(every), 250)):
                    self.assertIs(carriers.is_certificate(names, value), judged(carriers, names, value), value)

    def test_both_forms_for_one_set(self):
        self.assertFalse(LETTERS.is_certificate(("get",), ("run", (2,), POST)))
        self.assertFalse(LETTERS.is_certificate((), LETTERS.certificate(("get",))))
        self.assertTrue(LETTERS.is_certificate(("get",), LETTERS.certificate(("get",))))
        self.assertFalse(LETTERS.is_certificate(("get",), ("closed", (), ())))

    def test_more_members_and_events_than_necessary(self):
        longer = POST[:2] + (("send", (3,)), ("get", (3,))) + POST[2:]
        self.assertTrue(LETTERS.is_certificate((), ("run", (7,), longer)))
        self.assertFalse(LETTERS.is_certificate((), ("run", (7,), longer + (("send", (4,)),))))
        self.assertFalse(LETTERS.is_certificate((), ("run", (2,), POST[:3])))
        self.assertFalse(LETTERS.is_certificate((), ("run", (1,), POST)))
        self.assertFalse(LETTERS.is_certificate((), ("run", (2,), ())))
        many = tuple(("send", (number,)) for number in range(1000)) + tuple(("get", (number,)) for number in range(999, -1, -1))
        self.assertTrue(LETTERS.is_certificate((), ("run", (1000,), many)))
        self.assertFalse(LETTERS.is_certificate((), ("run", (1001,), (("send", (1000,)),) + many)))

    def test_the_last_event_is_of_no_asked_action(self):
        nobody = Carriers(Order(MAIL), ("send",), ())
        self.assertTrue(judge.is_wrong_at_end(MAIL, ("send",), ("get",), (), (2,), POST))
        self.assertFalse(nobody.is_certificate((), ("run", (2,), POST)))

    def test_parts_of_2000_patterns(self):
        # No member of x ever comes to t; the events of b hand on what those of a do.
        still = System.from_lines("agent p s", "agent q s", "pool x s t", "action a p s s", "action b p s s, q s s", "action d q s s, x t t")
        carriers = Carriers(Order(still), ("a",), ("d",))
        kind, early, late = carriers.certificate(())
        self.assertEqual((kind, early), ("closed", (((("p", "s"), ("q", "s")), (("x", "t", 1),)),)))
        for many, expected in ((2000, True), (2001, False)):
            longer = tuple(((("p", "s"), ("q", "s")), (("x", "t", number),)) for number in range(1, many + 1))
            self.assertIs(carriers.is_certificate((), (kind, longer, late)), expected)
            # What is above a pattern of a closed pair may be in it, too.
            more = [(late[-1][0], late[-1][1][:-1] + ((*late[-1][1][-1][:3], number),)) for number in range(2, 2100)]
            longer = tuple(sorted([*late, *more[:many - len(late)]]))
            self.assertEqual(len(longer), many)
            self.assertIs(carriers.is_certificate((), (kind, early, longer)), expected)


class StatementTest(unittest.TestCase):
    def test_a_union_of_least_sets_need_not_be_least(self):
        order = Order(EITHER)
        one, other, both = [Carriers(order, ("a",), asked).least_sets() for asked in (("w",), ("z",), ("w", "z"))]
        self.assertEqual((one, other, both), ((("x",), ("y",)),) * 3)
        self.assertNotIn(("x", "y"), both)

    def test_not_every_action_on_a_way_must_carry(self):
        # Both x and y are on the only way from a to z.
        self.assertTrue(Carriers(Order(EITHER), ("a",), ("z",)).is_enough(("y",)))
        run = Run(EITHER, (), (("a", ()), ("x", ()), ("y", ()), ("z", ())))
        self.assertEqual(run.past(3), (0, 1, 2))

    def test_unions_for_several_asked_actions(self):
        for carriers in small_carriers():
            if len(carriers.asked) < 2:
                continue
            order, group = Order(carriers.system), carriers.group
            single = [Carriers(order, group, (name,)) for name in carriers.asked]
            rows = all_sets(carriers.question)
            for chosen in itertools.product(*[[one for one in rows if part.is_enough(one)] for part in single]):
                self.assertTrue(carriers.is_enough(tuple(sorted(set().union(*chosen)))))
            unions = {tuple(sorted(set().union(*chosen))) for chosen in itertools.product(*[part.least_sets() for part in single])}
            self.assertLessEqual(set(carriers.least_sets()), unions)

    def test_a_part_of_the_group(self):
        for carriers in small_carriers():
            order = Order(carriers.system)
            for part in all_sets(carriers.group)[1:-1]:
                smaller = Carriers(order, part, carriers.asked) if len(carriers.system) - len(part) <= 6 else None
                rest = [name for name in carriers.group if name not in part]
                for names in all_sets(carriers.question):
                    if smaller is not None and carriers.is_enough(names):
                        self.assertTrue(smaller.is_enough(tuple(sorted([*names, *rest]))))

    def test_clocks_with_enough_carriers(self):
        for carriers in small_carriers():
            for names in carriers.least_sets():
                clocks = Clocks(Order(carriers.system), (carriers.group,), carriers=(names,))
                for numbers in slow.all_numbers(carriers.system, 2):
                    for events, _ in itertools.islice(slow.all_runs(carriers.system, numbers, 4), 150):
                        run = Run(carriers.system, numbers, events)
                        wrong = [at for at, (stamp, right) in enumerate(zip(clocks.stamps(run), clocks.right(run))) if stamp != right]
                        self.assertFalse([at for at in wrong if events[at][0] in [*carriers.group, *carriers.asked]])


class ErrorTest(unittest.TestCase):
    def test_wrong_orders_and_groups(self):
        for value in without_kind(VALUES, Order) + [MAIL]:
            check_error(self, InvalidOperation, {}, Carriers, value, None, None)
        order = Order(MAIL)
        for value in NO_TUPLES + TUPLES + (("get", "send"), ("send", "send"), ["send"], ("fly",), ("letter",)):
            check_error(self, InvalidOperation, {}, Carriers, order, value, ())
        check_error(self, InvalidOperation, {}, Carriers, Order(SERVE), ("think",), ())
        check_error(self, InvalidOperation, {}, Carriers, Order(LOCK), ("take", "give"), ())

    def test_wrong_asked_actions(self):
        order = Order(SERVE)
        for value in NO_TUPLES + TUPLES[1:] + (("think", "reply"), ("ask",), ("ask", "think"), ("think", "think"), ["think"], ("fly",)):
            check_error(self, InvalidOperation, {}, Carriers, order, ("ask",), value)

    def test_six_in_question_and_seven(self):
        self.assertEqual(len(Carriers(Order(star(6)), ("a",), ()).question), 6)
        self.assertEqual(Carriers(Order(star(6)), ("a",), ("ba", "bf")).least_sets(), ((),))
        check_error(self, TooMany, {"limit": 6}, Carriers, Order(star(7)), ("a",), ())
        check_error(self, InvalidOperation, {}, Carriers, Order(star(7)), ("a",), ("a",))
        self.assertEqual(Carriers(Order(star(7)), tuple(star(7).names[1:]), ()).question, ("a",))

    def test_wrong_carriers(self):
        for value in NO_TUPLES + TUPLES[1:] + (("send",), ("get", "get"), ["get"], ("fly",), ("get", "send")):
            for call in (LETTERS.is_enough, LETTERS.certificate):
                check_error(self, InvalidOperation, {}, call, value)
            check_error(self, InvalidOperation, {}, LETTERS.is_certificate, value, ("run", (2,), POST))
        for value in VALUES:
            self.assertIs(LETTERS.is_certificate((), value), False)

    def test_too_many_patterns(self):
        wide = crowded()
        carriers = Carriers(Order(wide), ("a",), ("c",))
        check_error(self, InvalidOperation, {}, carriers.is_enough, ("a",))
        raised = []
        for names in all_sets(carriers.question):
            try:
                carriers.is_enough(names)
            except TooMany:
                raised.append(names)
                check_error(self, TooMany, {"limit": 400}, carriers.certificate, names)
                check_error(self, TooMany, {"limit": 400}, carriers.is_enough, names)
                # A function that judges raises none for its value.
                self.assertIs(carriers.is_certificate(names, ("closed", (), ())), False)
        self.assertIn((), raised)
        self.assertTrue(carriers.is_enough(("b", "c")))
        for call in (carriers.least_sets, carriers.greatest_sets):
            check_error(self, TooMany, {"limit": 400}, call)

    def test_changed_results_change_nothing(self):
        found = LETTERS.certificate(())
        self.assertEqual(found, LETTERS.certificate(()))
        self.assertEqual((LETTERS.is_enough(()), LETTERS.is_enough(("get",))), (False, True))


def crowded():
    """A system for which the search has too many patterns, but not with all carriers."""
    return System.from_lines(
        "agent p s t", "pool x r s", "pool y r s t", "action a p t t, x r r, y t t", "action b x r r, x r s, y t r",
        "action c x s r, x s r, y s r",
    )


def judged(carriers, names, value):
    """Whether the value is a certificate for these carriers, by the words of the document."""
    watch = Watch(carriers.system, carriers.group, barred=carriers.group, carriers=names)
    every = [one for name in [*carriers.group, *carriers.asked] for one in judge.tagged_needs(carriers.system, name, ("behind", "fresh"), "behind")]
    if judge.does_bar_watched(watch, every, value):
        return True
    return judge.is_run(carriers.system, value) and judge.is_wrong_at_end(carriers.system, carriers.group, carriers.asked, names, *value[1:])


if __name__ == "__main__":
    unittest.main()
