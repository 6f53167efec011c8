"""Tests over the whole program: what the stages tell of systems that belong together, and which objects are iterable."""

import itertools
import random
import unittest

from groupclocks.base.systems import Action, System, renamed_system
from groupclocks.clocks.carriers import Carriers
from groupclocks.clocks.clocks import Clocks
from groupclocks.clocks.watch import Watch
from groupclocks.cover.patterns import needs_of, needs_of_both, pattern_ahead, start_row
from groupclocks.cover.reach import Reach, is_certificate
from groupclocks.order.groups import fewest_groups, greatest_groups, how_many, loose_actions
from groupclocks.order.pairs import Order
from groupclocks.past.always import Past, is_always, is_never
from groupclocks.past.repairs import least_blocks, least_repairs
from groupclocks.project.project import Project, holds_in
from groupclocks.runs.runs import Run
from groupclocks.text.shell import Shell
from groupclocks.text.texts import read_certificate, read_run, read_system, write_certificate, write_run, write_system
from groupclocks.trace.tracer import Tracer
from tests import slow
from tests.samples import ALONE, LOCK, MAIL, MIXED, SERVE, TWINS, check_not_iterable
from tests.test_texts import drawn_run

TARGETS = 4


def small_systems(many=25):
    """Several small systems."""
    return [SERVE, LOCK, MAIL, TWINS, ALONE, MIXED] + [slow.random_system(seed, 2, 1, 2, 3) for seed in range(many)]


def some_targets(system):
    """Some targets of a system, always the same ones."""
    every = sorted(slow.all_patterns(system, 2))
    return random.Random(len(every)).sample(every, min(len(every), TARGETS))


def pairs_of(system):
    """All pairs of names of actions, the lesser one first."""
    return list(itertools.combinations_with_replacement(system.names, 2))


def all_told(system, targets):
    """Much of what the stages tell of a system, and of some targets."""
    order, past = Order(system), Past(system)
    tight = tuple(name for name in system.names if name not in loose_actions(order))
    told = {("loose",): set(loose_actions(order)), ("always",): set(past.always), ("never",): set(past.never), ("idle",): set(past.idle)}
    if tight:
        told["groups",] = fewest_groups(order, tight), how_many(order, tight), {frozenset(group) for group in greatest_groups(order, tight)}
    for one, other in pairs_of(system):
        told[frozenset((one, other))] = order.is_ordered(one, other), order.least_members(one, other), {frozenset(row) for row in least_repairs(system, one, other)}
    for at, target in enumerate(targets):
        reach = Reach(system, target)
        told["target", at] = reach.fewest, reach.steps, len(reach), len(reach.rounds), {frozenset(row) for row in least_blocks(system, target)}
    for name in tight:
        carriers = Carriers(order, (name,), tuple(other for other in system.names if other != name))
        told["carriers", name] = {frozenset(row) for row in carriers.least_sets()}, {frozenset(row) for row in carriers.greatest_sets()}
    return told


def with_names(value, names):
    """The value with other names of actions in its sets and pairs."""
    if isinstance(value, str):
        return names.get(value, value)
    return type(value)(with_names(part, names) for part in value) if isinstance(value, (tuple, set, frozenset)) else value


class IterationTest(unittest.TestCase):
    def test_only_projects_are_iterable(self):
        order = Order(LOCK)
        tracer = Tracer(LOCK, (1,))
        for value in (LOCK, LOCK["take"], Run(LOCK, (1,)), Reach(LOCK, ((), ())), order, Clocks(order, ()), Watch(LOCK, ("take",)), Carriers(order, ("take",), ()), Past(LOCK), tracer, tracer.trial(),
                      Shell(write_system(LOCK)), Project(LOCK).trial()):
            check_not_iterable(self, value)
        self.assertEqual(list(Project(LOCK)), ["give", "take", "work"])


class OtherNamesTest(unittest.TestCase):
    def test_other_names(self):
        for system in small_systems():
            owners = {name: word for name, word in zip([*system.agents, *system.pools], ("zed", "yak", "xen", "wax"))}
            actions = {name: word for name, word in zip(system.names, ("vim", "urn", "tea", "sow"))}
            other = renamed_system(system, owners, actions)
            targets = some_targets(system)
            moved = [tuple(tuple(sorted((owners[entry[0]], *entry[1:]) for entry in part)) for part in target) for target in targets]
            told = all_told(system, targets)
            self.assertEqual({with_names(key, actions): with_names(value, actions) for key, value in told.items()}, all_told(other, moved))
            for target, one in zip(targets, moved):
                rows, others = Reach(system, target).rows, Reach(other, one).rows
                places = [sorted(system.pools).index(pool) for pool in sorted(system.pools, key=lambda pool: owners[pool])]
                self.assertEqual(others, tuple(sorted(tuple(row[place] for place in places) for row in rows)))


class SideBySideTest(unittest.TestCase):
    def beside(self, one, other):
        """Two systems side by side, the second one with other names."""
        owners = {name: "b" + name for name in [*other.agents, *other.pools]}
        other = renamed_system(other, owners, {name: "z" + name for name in other.names})
        return other, System({**one.agents, **other.agents}, {**one.pools, **other.pools}, (*one.actions, *other.actions))

    def test_two_systems(self):
        # [0.18], [0.19]: neither of them changes what is told of the other one.
        known = small_systems(12)
        for one, other in list(zip(known, known[3:]))[:14]:
            if len(one.agents) + len(other.agents) > 5 or len(one.pools) + len(other.pools) > 3:
                continue
            other, both = self.beside(one, other)
            order, past = Order(both), Past(both)
            for part in (one, other):
                small = Order(part)
                for pair in pairs_of(part):
                    self.assertEqual((order.is_ordered(*pair), order.least_members(*pair)), (small.is_ordered(*pair), small.least_members(*pair)))
                smaller = Past(part)
                for pair in itertools.product(part.names, repeat=2):
                    self.assertEqual(past.says(*pair), smaller.says(*pair))
                for target in some_targets(part):
                    wide, reach = Reach(both, target), Reach(part, target)
                    self.assertEqual((wide.rounds, wide.fewest, wide.steps, len(wide.rows)), (reach.rounds, reach.fewest, reach.steps, len(reach.rows)))
                    self.assertTrue(is_certificate(both, target, ("closed", reach.closed)) if not reach.is_reachable else True)
                    self.assertEqual(least_blocks(both, target), least_blocks(part, target))
            idle = set(past.idle)
            for left, right in itertools.product(one.names, other.names):
                # What can happen in both is concurrent, and nothing of the one is ever before something of the other.
                self.assertIs(order.is_ordered(left, right), bool(idle & {left, right}))
                self.assertEqual((past.says(left, right), past.says(right, left)), ("idle" if right in idle else "never", "idle" if left in idle else "never"))
            for mine, yours in itertools.product(some_targets(one)[:2], some_targets(other)[:2]):
                target = tuple(tuple(sorted([*part, *rest])) for part, rest in zip(mine, yours))
                self.assertIs(Reach(both, target).is_reachable, Reach(one, mine).is_reachable and Reach(other, yours).is_reachable)


class MembersTest(unittest.TestCase):
    def test_members_exchanged(self):
        source = random.Random(3)
        for system in small_systems():
            order = Order(system)
            groups = tuple((name,) for name in system.names if order.is_ordered(name, name))[:1]
            clocks, watch = Clocks(order, groups, carriers=((),) * len(groups)), Watch(system, system.names, carriers=system.names[:1])
            for _ in range(3):
                run = drawn_run(system, source)
                many = dict(zip(system.pools, run.numbers))
                turned = {pool: source.sample(range(number), number) for pool, number in many.items()}
                other = Run(system, run.numbers, tuple(self.exchanged(system, event, turned) for event in run.events))
                self.assertEqual([run.past(at) for at in range(len(run))], [other.past(at) for at in range(len(run))])
                self.assertEqual((clocks.stamps(run), clocks.right(run), clocks.first_wrong(run)), (clocks.stamps(other), clocks.right(other), clocks.first_wrong(other)))
                self.assertEqual(list(run.each_order()), list(other.each_order()))
                for who, state in run.finals.items():
                    self.assertEqual(other.finals[self.moved(who, turned)], state)
                for at in range(len(run)):
                    tags = watch.tags(other, at)
                    self.assertTrue(all(tags[self.moved(who, turned)] == tag for who, tag in watch.tags(run, at).items()))
                self.check_tracers(run, other, turned, source)

    def check_tracers(self, run, other, turned, source):
        """Check what tracers of both runs tell."""
        mine, yours = Tracer(run.system, run.numbers), Tracer(run.system, run.numbers)
        for event, exchanged in zip(run.events, other.events):
            mine.add(event)
            yours.add(exchanged)
        people = source.sample(sorted(run.finals), min(len(run.finals), 3))
        wishes = [(who, source.choice(run.system.states(who[0]))) for who in people]
        if wishes:
            moved = [(self.moved(who, turned), state) for who, state in wishes]
            self.assertEqual((mine.can_meet(*wishes), mine.must_meet(*wishes)), (yours.can_meet(*moved), yours.must_meet(*moved)))
        for who in run.finals:
            self.assertEqual(mine.stays(who), yours.stays(self.moved(who, turned)))

    def moved(self, who, turned):
        """The participant that is in the place of another one."""
        return (who[0], turned[who[0]][who[1]]) if who[0] in turned else who

    def exchanged(self, system, event, turned):
        """An event with other members in the places of its own."""
        moves = slow.members_of(system, system[event[0]])
        pairs = sorted((move, turned[move[0]][number]) for move, number in zip(moves, event[1]))
        return event[0], tuple(number for _, number in pairs)

    def test_more_members_never_harm(self):
        for system in small_systems():
            for target in some_targets(system):
                reach = Reach(system, target)
                for row in reach.rows:
                    for extra in itertools.product(range(2), repeat=len(row)):
                        numbers = tuple(one + more for one, more in zip(row, extra))
                        self.assertEqual(reach.run(numbers=numbers).numbers, numbers)


class OtherActionsTest(unittest.TestCase):
    def test_an_action_less(self):
        # [0.23], and [14.2]
        for system in small_systems():
            order, past = Order(system), Past(system)
            for name in system.names if len(system) > 1 else ():
                smaller = system.without((name,))
                less, earlier = Order(smaller), Past(smaller)
                self.assertTrue(all(less.is_ordered(*pair) for pair in pairs_of(smaller) if order.is_ordered(*pair)))
                self.assertTrue(all(pair in earlier.always for pair in past.always if name not in pair))
                self.assertTrue(all(pair in earlier.never for pair in past.never if name not in pair))
                self.assertTrue(all(one in earlier.idle for one in past.idle if one != name))
                for target in some_targets(system):
                    if not Reach(system, target).is_reachable:
                        self.assertFalse(Reach(smaller, target).is_reachable)
                        self.assertTrue(holds_in(smaller, ("barred", target)))

    def test_an_action_more(self):
        for system in small_systems():
            owner = [*system.agents, *system.pools][0]
            states = system.states(owner)
            new = Action("more", ((owner, states[0], states[-1]),))
            larger = system.with_action(new)
            order = Order(larger)
            for pair in pairs_of(system):
                if order.is_ordered(*pair):
                    self.assertTrue(Order(system).is_ordered(*pair))
            project = Project(system)
            project.put(new)
            kept = {pair for pair in pairs_of(system) if Order(system).is_ordered(*pair)}
            self.assertEqual(set(project.turned), {pair for pair in kept if not order.is_ordered(*pair)})
            for target in some_targets(system):
                if Reach(system, target).is_reachable:
                    self.assertTrue(Reach(larger, target).is_reachable)
                    self.assertLessEqual(Reach(larger, target).fewest, Reach(system, target).fewest)

    def test_a_further_move_of_a_new_agent(self):
        # [0.25]: what was ordered stays so; and nothing else changes but that two such actions are ordered now.
        for system in small_systems():
            order, past = Order(system), Past(system)
            for names in ((system.names[0],), system.names[:2]):
                if any(len(system[name]) == 4 for name in names) or len(system.agents) == 5:
                    continue
                actions = [Action(action.called, (*action.moves, ("guard", "on", "on"))) if action.called in names else action for action in system.actions]
                guarded = System({**system.agents, "guard": ("on",)}, system.pools, tuple(actions))
                more = Order(guarded)
                for pair in pairs_of(system):
                    self.assertIs(more.is_ordered(*pair), order.is_ordered(*pair) or set(pair) <= set(names))
                self.assertEqual(Past(guarded).idle, past.idle)
                for target in some_targets(system):
                    self.assertEqual((Reach(guarded, target).rows, Reach(guarded, target).steps), (Reach(system, target).rows, Reach(system, target).steps))
                    self.assertEqual(least_blocks(guarded, target), least_blocks(system, target))
                for one, other in itertools.product(system.names, repeat=2):
                    self.assertEqual(is_always(guarded, (one,), other), is_always(system, (one,), other))
                    if is_never(guarded, (one,), other):
                        self.assertTrue(is_never(system, (one,), other))

    def test_a_further_move_of_another_agent(self):
        # [0.24]: it need not stay ordered.
        system = System.from_lines("agent p s t u", "pool x a", "action a p s t", "action b p t u", "action c x a a, x a a")
        self.assertTrue(Order(system).is_ordered("a", "b"))
        self.assertFalse(Order(system).is_ordered("a", "c"))
        turn = System.from_lines("agent l off on", "agent p s", "pool x o i", "action take l off on, x o i", "action work x i i")
        self.assertTrue(Order(turn).is_ordered("work", "work"))
        more = turn.with_action(Action("take", turn["take"].moves + (("x", "o", "i"),)))
        self.assertTrue(Order(more).concurrent)
        self.assertFalse(Order(more).is_ordered("work", "work"))


class TogetherTest(unittest.TestCase):
    def test_texts_and_answers(self):
        """What one stage writes, another one reads, and all of it is true."""
        source = random.Random(7)
        for system in small_systems(12):
            same, order = read_system(write_system(system)), Order(system)
            for one, other in pairs_of(system):
                found = order.certificate(one, other)
                self.assertEqual(read_certificate(same, write_certificate(system, found)), found)
                self.assertIs(holds_in(same, ("ordered", one, other)), order.is_ordered(one, other))
                if needs_of_both(system, one, other) is None:
                    self.assertEqual(found[0], "shared")
            run = drawn_run(system, source)
            self.assertEqual(read_run(same, write_run(run)), run)
            shell = Shell(write_system(system))
            for name in system.names:
                needs = needs_of(system, name)
                self.assertEqual(shell(f"holds ordered {name} {name}"), "yes" if order.is_ordered(name, name) else "no")
                self.assertIs(start_row(system, needs) is None or Reach(system, needs).is_reachable, True)
                self.assertIs(pattern_ahead(system, name, ((), ())) == needs, True)


if __name__ == "__main__":
    unittest.main()
