"""Tests of claims and projects: promises 14.1 and 14.2, and the names of stage 14."""

import itertools
import random
import unittest

from groupclocks.base.systems import Action, System
from groupclocks.clocks.carriers import Carriers
from groupclocks.cover.reach import Reach
from groupclocks.errors import (
    InvalidAction, InvalidNumber, InvalidOperation, InvalidSystem, NothingToUndo, Refused, TooMany, UnknownName,
)
from groupclocks.order.groups import is_group
from groupclocks.order.pairs import Order, is_ordered
from groupclocks.past.always import is_always, is_never
from groupclocks.project import project as module
from groupclocks.project.project import Project, fits_in, holds_in
from tests import judge, slow
from tests.samples import (
    ALONE, LOCK, MAIL, MIXED, SERVE, TWINS, VALUES, check_equality, check_error, check_examples, check_fixed, is_like,
    without_kind,
)

EXAMPLE = """
>>> [project.pin(work), project.drop("give"), project.turned, project.undo(), project.claims]
[None, None, (), 1, (('ordered', 'work', 'work'),)]
>>> project.put(Action.from_line("take client out in"))
raises Refused
>>> [project.unpin(work), project.put(Action.from_line("take client out in")), project.turned]
[None, None, (('take', 'take'), ('take', 'work'), ('work', 'work'))]
>>> [holds_in(MAIL, ("never", ("get",), "send")), fits_in(MAIL, ("group", ("send", "get"))), holds_in(MAIL, ("enough", ("send",), ("get",), ()))]
[True, False, False]
"""
WORK = ("ordered", "work", "work")
TWO_IN = ("barred", ((), (("client", "in", 2),)))
OPEN = Action.from_line("take client out in")
# Right claims about LOCK, of every sort.
CLAIMS = (
    ("always", ("take",), "give"), TWO_IN, ("barred", ((("lock", "free"),), (("client", "in", 1),))), ("enough", ("give", "take", "work"), (), ()),
    ("enough", ("take",), ("give",), ("give",)), ("group", ("give", "take")), ("group", ("work",)), ("ordered", "give", "take"), WORK,
)
# Claims that fit no system.
NO_CLAIMS = (
    ("ordered", "work"), ("ordered", "work", "take"), ("ordered", "work", "fly"), ("ordered", "work", "work", "work"), ["ordered", "work", "work"], ("Ordered", "work", "work"),
    ("group",), ("group", ()), ("group", "work"), ("group", ["work"]), ("group", ("work", "take")), ("group", ("take", "take")), ("group", ("fly",)), ("group", ("take",), ()),
    ("barred",), ("barred", ()), ("barred", ((), (("client", "in", 41),))), ("barred", ((), (("client", "in", True),))), ("barred", ((), (("guest", "in", 1),))), ("barred", ((), ()), ()),
    ("enough", ("take",), ()), ("enough", (), (), ()), ("enough", ("take",), ("take",), ()), ("enough", ("take",), (), ("take",)), ("enough", ["take"], (), ()), ("enough", ("take",), None, ()),
    ("enough", ("take",), (), None), ("enough", ("work", "take"), (), ()), ("enough", ("take",), ("fly",), ()), ("enough", ("take",), ("work", "give"), ()), ("enough", ("take",), (), (), ()),
    ("always", (), "take"), ("always", ("take",)), ("always", ("take",), "fly"), ("always", ("take",), ("take",)), ("always", "take", "take"), ("never", ("work", "take"), "take"),
    ("never", ["take"], "take"), ("never", ("take",), None), ("idle", "take"), ("Enough", ("take",), (), ()), ("held", ("take",), (), ()), (("ordered",), "work", "work"), (None, "work", "work"), (WORK,), (True,),
)


def star(many):
    """A system in which one action is a group, beside so many others."""
    return System.from_lines("agent p s", "agent q s", "action a p s s", *[f"action b{letter} q s s" for letter in "abcdefg"[:many]])


def wide():
    """A system for which an order finds too many patterns, but some of whose claims can be told."""
    steps = [f"action {one}{begin}{end} {one} {begin} {end}" for one in "pqr" for begin, end in ("st", "tu", "uv", "vw")]
    return System.from_lines(*[f"agent {one} s t u v w" for one in "pqr"], "pool x a b c", *steps, "action yb p w w, x c c, x c c",
                             "action yc q w w, r w w, x c c", "action xa x a b", "action xb x b c")


def all_claims(system, source):
    """Some claims that fit a system or almost do."""
    names = system.names
    rows = [one for many in range(0, min(len(names), 3) + 1) for one in itertools.combinations(names, many)]
    targets = list(slow.all_patterns(system, 2))
    return [
        ("ordered", source.choice(names), source.choice(names)), ("group", source.choice(rows)), ("barred", source.choice(targets)),
        ("enough", source.choice(rows), source.choice(rows), source.choice(rows)), ("always", source.choice(rows), source.choice(names)),
        ("never", source.choice(rows), source.choice(names)), ("always", source.choice(rows), "zzz"), ("ordered", names[0], names[0]),
    ]


def is_true(system, claim):
    """Whether a claim fits a system and is true, by what the other stages tell."""
    word, *parts = claim
    known = set(system.names)
    rows = [part for part in parts if isinstance(part, tuple)] if word != "barred" else []
    if not all(set(row) <= known and list(row) == sorted(set(row)) for row in rows) or any(isinstance(part, str) and part not in known for part in parts):
        return False
    if word == "ordered":
        return parts[0] <= parts[1] and is_ordered(system, *parts)
    if word == "group":
        return bool(parts[0]) and is_group(Order(system), parts[0])
    if word == "barred":
        return judge.is_pattern(system, parts[0]) and not Reach(system, parts[0]).is_reachable
    if word in ("always", "never"):
        return bool(parts[0]) and (is_always if word == "always" else is_never)(system, *parts)
    group, asked, names = parts
    if not group or len(known) - len(group) > 6 or set(group) & set(asked + names) or not is_group(Order(system), group):
        return False
    return Carriers(Order(system), group, asked).is_enough(names)


class ClaimTest(unittest.TestCase):
    def test_examples(self):
        project = Project(LOCK)
        check_examples(self, EXAMPLE, {"project": project, "work": WORK, "Action": Action, "holds_in": holds_in, "fits_in": fits_in, "MAIL": MAIL})
        self.assertEqual(module.MAX_CLAIMS, 20)

    def test_right_claims(self):
        for claim in CLAIMS:
            self.assertIs(fits_in(LOCK, claim), True, claim)
            self.assertIs(holds_in(LOCK, claim), is_true(LOCK, claim), claim)
        self.assertEqual([holds_in(LOCK, claim) for claim in CLAIMS], [True, True, True, True, True, True, True, True, True])

    def test_no_claims(self):
        for value in VALUES + NO_CLAIMS:
            self.assertIs(fits_in(LOCK, value), False, value)
            self.assertIs(holds_in(LOCK, value), False, value)

    def test_claims_of_small_systems(self):
        source, found = random.Random(2), set()
        for system in [SERVE, LOCK, MAIL, TWINS, ALONE, MIXED] + [slow.random_system(seed, 2, 1, 3, 4) for seed in range(30)]:
            for claim in [claim for _ in range(4) for claim in all_claims(system, source)]:
                self.assertIs(holds_in(system, claim), is_true(system, claim), (system.lines, claim))
                found.add((claim[0], holds_in(system, claim), fits_in(system, claim)))
                if holds_in(system, claim):
                    self.assertTrue(fits_in(system, claim))
        words = ("ordered", "group", "barred", "enough", "always", "never")
        self.assertEqual(found, {(word, *one) for word in words for one in ((True, True), (False, True), (False, False))} - {("barred", False, False), ("enough", False, True)})

    def test_claims_near_right_ones(self):
        words = judge.words_of(LOCK) + ["ordered", "group", "barred", "enough", "always", "never"]
        for claim in CLAIMS:
            for value in judge.near(claim, words):
                fits, holds = fits_in(LOCK, value), holds_in(LOCK, value)
                self.assertTrue(fits or not holds)
                if fits:
                    self.assertIs(holds, is_true(LOCK, value), value)
                    self.assertFalse(any(is_like(part, True) or is_like(part, False) for part in parts_of(value)), value)

    def test_six_in_question_and_seven(self):
        self.assertEqual((fits_in(star(6), ("enough", ("a",), (), ())), holds_in(star(6), ("enough", ("a",), ("ba",), ()))), (True, True))
        self.assertEqual((fits_in(star(7), ("enough", ("a",), (), ())), holds_in(star(7), ("enough", ("a",), (), ()))), (False, False))
        self.assertEqual((fits_in(MAIL, ("enough", ("send",), ("get",), ())), holds_in(MAIL, ("enough", ("send",), ("get",), ()))), (True, False))
        # In MAIL, send and get are no group.
        self.assertFalse(fits_in(MAIL, ("enough", ("get", "send"), (), ())))
        self.assertEqual((fits_in(MAIL, ("group", ("get", "send"))), holds_in(MAIL, ("group", ("get", "send")))), (True, False))

    def test_sixteen_names(self):
        system = System.from_lines("agent p s", *[f"action {letter} p s s" for letter in "abcdefghijklmnop"])
        self.assertEqual((holds_in(system, ("group", system.names)), holds_in(system, ("always", system.names, "a")), fits_in(system, ("never", system.names, "p"))), (True, False, True))

    def test_no_system(self):
        for value in without_kind(VALUES, System):
            check_error(self, InvalidSystem, {}, fits_in, value, WORK)
            check_error(self, InvalidSystem, {}, holds_in, value, None)
            check_error(self, InvalidSystem, {}, Project, value)

    def test_too_many_patterns(self):
        system = wide()
        check_error(self, TooMany, {"limit": 400}, Order, system)
        check_error(self, TooMany, {"limit": 400}, Project, system)
        self.assertEqual((fits_in(system, ("group", ("xa",))), holds_in(system, ("ordered", "pst", "pst")), fits_in(system, ("ordered", "yb", "yc"))), (True, True, True))
        check_error(self, TooMany, {"limit": 400}, holds_in, system, ("group", ("xa",)))
        check_error(self, TooMany, {"limit": 400}, holds_in, system, ("ordered", "yb", "yc"))
        many = system.names[:10]
        for claim in (("enough", many, ("xb",), ("xb",)), ("enough", many, (), ())):
            check_error(self, TooMany, {"limit": 400}, fits_in, system, claim)
            check_error(self, TooMany, {"limit": 400}, holds_in, system, claim)
        # Six members in six states are too many for the order of six actions.
        steps = [f"action {begin}{end} x {begin} {end}" for begin, end in ("ab", "bc", "cd", "de", "ef")]
        crowd = System.from_lines("pool x a b c d e f", *steps, "action z x f f, x f f, x f f")
        check_error(self, TooMany, {"limit": 400}, fits_in, crowd, ("enough", ("z",), (), ()))
        self.assertIs(fits_in(crowd, ("enough", (), (), ())), False)
        for claim in (("enough", many[:9], (), ()), ("enough", many, ("fly",), ()), ("enough", many, (many[0],), ()), ("enough", many, (), (many[0],)), ("enough", many, (), ["xb"])):
            self.assertIs(fits_in(system, claim), False)
        target = ((("p", "w"), ("q", "w"), ("r", "w")), (("x", "c", 40),))
        self.assertTrue(fits_in(system, ("barred", target)))
        check_error(self, TooMany, {"limit": 400}, holds_in, system, ("barred", target))
        self.assertIs(holds_in(system, ("barred", ((), (("x", "c", 41),)))), False)


def parts_of(value):
    """A value and all parts of its tuples."""
    return [value] + ([one for part in value for one in parts_of(part)] if isinstance(value, tuple) else [])


class Record:
    """A plain record of a project: its system, claims and calls."""

    def __init__(self, system):
        self.system, self.claims, self.turned, self.calls = system, (), (), []

    def state(self):
        return self.system, self.claims, self.turned, list(self.calls)

    def put_back(self, state):
        self.system, self.claims, self.turned, self.calls = state[0], state[1], state[2], list(state[3])

    def go(self, system, claims):
        self.calls.append((self.system, self.claims))
        self.turn(system, claims)

    def turn(self, system, claims):
        names = sorted(set(self.system.names) & set(system.names))
        before = self.system
        self.turned = tuple((one, other) for one in names for other in names
                            if one <= other and is_ordered(before, one, other) != is_ordered(system, one, other))
        self.system, self.claims = system, claims

    def refused(self, system):
        """The first claim that does not hold in a system, or None."""
        return next((claim for claim in self.claims if not is_true(system, claim)), None)

    def put(self, action):
        try:
            system = self.system.with_action(action)
        except (InvalidAction, InvalidOperation) as error:
            return type(error)
        return self.take(system)

    def drop(self, name):
        if name not in self.system.names:
            return UnknownName
        return InvalidOperation if len(self.system) == 1 else self.take(self.system.without((name,)))

    def take(self, system):
        if self.refused(system) is not None:
            return Refused
        self.go(system, self.claims)
        return None

    def pin(self, claim):
        if not fits_in(self.system, claim):
            return InvalidOperation
        if not is_true(self.system, claim):
            return Refused
        if claim not in self.claims and len(self.claims) == 20:
            return TooMany
        self.go(self.system, tuple(sorted({*self.claims, claim})))
        return None

    def unpin(self, claim):
        if claim not in self.claims:
            return InvalidOperation
        self.go(self.system, tuple(one for one in self.claims if one != claim))
        return None

    def undo(self, many):
        if many > len(self.calls):
            return NothingToUndo
        system, claims = self.calls[-many] if many else (self.system, self.claims)
        self.calls = self.calls[:len(self.calls) - many]
        self.turn(system, claims)
        return None


class ProjectTest(unittest.TestCase):
    def test_what_it_tells(self):
        project = Project(LOCK)
        self.assertEqual((project.system, project.claims, project.order, project.turned, str(project), len(project)), (LOCK, (), Order(LOCK), (), "project of 3 actions, 0 claims", 3))
        project.pin(TWO_IN)
        project.pin(WORK)
        self.assertEqual((project.claims, str(project), project["work"]), ((TWO_IN, WORK), "project of 3 actions, 2 claims", LOCK["work"]))
        self.assertEqual(([*project], list(project), sorted(project), "work" in project, "fly" in project), (["give", "take", "work"],) * 3 + (True, False))
        check_fixed(self, project, "system", "claims", "order", "turned")
        project += Action.from_line("rest client in in")
        self.assertEqual(([name for name in project], len(project)), (["give", "rest", "take", "work"], 4))
        same = project
        project -= "rest"
        self.assertIs(project, same)
        self.assertEqual((list(project), project.order), (["give", "take", "work"], Order(LOCK)))

    def test_what_it_contains(self):
        project = Project(LOCK)
        project.pin(TWO_IN)
        one_in = ("barred", ((("lock", "free"),), (("client", "in", 1),)))
        project.pin(one_in)
        self.assertTrue(TWO_IN in project and one_in in project)
        for value in VALUES + (WORK, list(TWO_IN), ("barred", ((("lock", "free"),), (("client", "in", True),))), LOCK["work"], ("take",), "Take", "client"):
            self.assertIs(value in project, False, value)
            check_error(self, InvalidOperation, {}, project.unpin, value)
        self.assertEqual(len(project.claims), 2)

    def test_no_names(self):
        project = Project(LOCK)
        for value in VALUES + ("client", "Take", LOCK["take"], ("take",)):
            check_error(self, UnknownName, {"wanted": value}, project.__getitem__, value)
            check_error(self, UnknownName, {"wanted": value}, project.drop, value)
            with self.assertRaises(UnknownName):
                project -= value
        self.assertEqual(project, Project(LOCK))

    def test_equality(self):
        project = Project(LOCK)
        check_equality(self, project, Project(System.from_lines(*reversed(LOCK.lines))), True)
        check_equality(self, project, Project(SERVE), False)
        project.pin(WORK)
        project.put(LOCK["work"])
        other = Project(LOCK)
        check_equality(self, project, other, False)
        other.pin(WORK)
        check_equality(self, project, other, True)
        for value in (LOCK, str(project), Project(SERVE), Order(LOCK)) + VALUES:
            check_equality(self, project, value, False)

    def test_refused_calls_leave_everything(self):
        project = Project(LOCK)
        for claim in CLAIMS:
            project.pin(claim)
        before = project.twin()
        for call, value, kind, keeps in (
            (project.put, OPEN, Refused, {"claim": ("barred", ((), (("client", "in", 2),)))}), (project.drop, "give", Refused, {"claim": ("always", ("take",), "give")}),
            (project.pin, ("ordered", "give", "fly"), InvalidOperation, {}), (project.pin, ("never", ("take",), "give"), Refused, {"claim": ("never", ("take",), "give")}),
            (project.put, Action.from_line("go guest out in"), InvalidOperation, {}), (project.put, "take", InvalidAction, {}), (project.unpin, ("ordered", "give", "give"), InvalidOperation, {}),
        ):
            check_error(self, kind, keeps, call, value)
            self.assertEqual((project, project.turned, project.undo(many=0)), (before, (), len(CLAIMS)))
        self.assertEqual(project.claims, tuple(sorted(CLAIMS)))

    def test_the_first_claim_is_refused(self):
        project = Project(LOCK)
        for claim in (WORK, ("ordered", "take", "work"), TWO_IN, ("group", ("take", "work"))):
            project.pin(claim)
        check_error(self, Refused, {"claim": TWO_IN}, project.put, OPEN)
        project.unpin(TWO_IN)
        check_error(self, Refused, {"claim": ("group", ("take", "work"))}, project.put, OPEN)
        project.unpin(("group", ("take", "work")))
        check_error(self, Refused, {"claim": ("ordered", "take", "work")}, project.put, OPEN)
        check_error(self, Refused, {"claim": ("ordered", "take", "work")}, project.drop, "take")
        self.assertEqual(project.system, LOCK)

    def test_wrong_actions(self):
        project = Project(LOCK)
        for value in without_kind(VALUES, Action) + ["take", LOCK["take"].moves]:
            check_error(self, InvalidAction, {}, project.put, value)
            with self.assertRaises(InvalidAction):
                project += value
        check_error(self, InvalidOperation, {}, project.put, Action("ask", (("guest", "out", "in"),)))
        one = Project(LOCK.without(("give", "take")))
        check_error(self, InvalidOperation, {}, one.drop, "work")
        self.assertEqual((project, one.undo(many=0)), (Project(LOCK), 0))

    def test_claims_about_actions_that_stay(self):
        # [14.2]
        project = Project(LOCK)
        for claim in (("group", ("give", "take")), TWO_IN, ("always", ("take",), "give")):
            project.pin(claim)
        project.drop("work")
        self.assertEqual((len(project.claims), list(project)), (3, ["give", "take"]))

    def test_a_claim_pinned_twice(self):
        project = Project(LOCK)
        self.assertEqual([project.pin(WORK), project.pin(WORK), project.claims], [None, None, (WORK,)])
        self.assertEqual([project.undo(), project.claims, project.undo(), project.claims], [1, (WORK,), 0, ()])

    def test_twenty_claims_and_one_more(self):
        project = Project(LOCK)
        claims = [("barred", ((), (("client", "in", number),))) for number in range(2, 23)]
        for claim in claims[:20]:
            project.pin(claim)
        check_error(self, TooMany, {"limit": 20}, project.pin, claims[20])
        self.assertEqual((len(project.claims), project.undo(many=0)), (20, 20))
        check_error(self, Refused, {"claim": ("barred", ((), ()))}, project.pin, ("barred", ((), ())))
        check_error(self, InvalidOperation, {}, project.pin, ("barred", None))
        project.pin(claims[3])
        self.assertEqual((len(project.claims), project.undo(many=0)), (20, 21))
        project.unpin(claims[0])
        project.pin(claims[20])
        self.assertEqual(project.claims, tuple(claims[1:]))

    def test_turned(self):
        project = Project(LOCK)
        self.assertEqual(project.turned, ())
        project.put(OPEN)
        turned = project.turned
        self.assertEqual(turned, (("take", "take"), ("take", "work"), ("work", "work")))
        check_error(self, UnknownName, {"wanted": "fly"}, project.drop, "fly")
        check_error(self, InvalidNumber, {"given": -1}, lambda: project.undo(many=-1))
        check_error(self, NothingToUndo, {"many": 2}, lambda: project.undo(many=2))
        self.assertEqual(project.turned, turned)
        project.put(OPEN)
        self.assertEqual(project.turned, ())
        self.assertEqual((project.undo(), project.turned, project.undo(), project.turned), (1, (), 0, turned))
        project.put(OPEN)
        self.assertEqual((project.undo(many=0), project.turned), (1, ()))
        project.put(LOCK["take"])
        project.pin(WORK)
        self.assertEqual((project.turned, project.undo(many=3), project.turned, project.system), ((), 0, (), LOCK))
        project.drop("take")
        self.assertEqual(project.turned, ())
        # An action that is gone, or that is new, turns nothing.
        project.put(OPEN)
        self.assertEqual(project.turned, (("work", "work"),))

    def test_undo(self):
        project = Project(LOCK)
        for value in VALUES + (-1, 10 ** 60, True, False):
            if not (type(value) is int and 0 <= value < 10 ** 60):
                check_error(self, InvalidNumber, {"given": value}, lambda: project.undo(many=value))
            elif value:
                check_error(self, NothingToUndo, {"many": value}, lambda: project.undo(many=value))
        check_error(self, NothingToUndo, {"many": 1}, project.undo)
        self.assertEqual(project.undo(many=0), 0)

    def test_beside_a_plain_record(self):
        for seed in range(14):
            source = random.Random(seed)
            system = source.choice([LOCK, SERVE, MAIL, slow.random_system(seed, 2, 1, 2, 4)])
            project, record = Project(system), Record(system)
            moves = [action.moves for action in system.actions] + [(source.choice(system.actions).moves[0],) for _ in range(2)]
            for _ in range(30):
                self.check_call(source, project, record, moves)

    def check_call(self, source, project, record, moves):
        """Check a drawn call of the project beside the record."""
        names = [*record.system.names, "new", "fly"]
        claims = [claim for claim in all_claims(record.system, source)] + list(record.claims)
        call, *rest = source.choice((
            ("put", Action(source.choice(names), source.choice(moves))), ("drop", source.choice(names)), ("pin", source.choice(claims)), ("pin", source.choice(claims)),
            ("unpin", source.choice(claims)), ("undo", source.choice((0, 1, 1, 2, 5))), ("trial",), ("twin",),
        ))
        if call == "trial":
            before = record.state()
            with project.trial():
                for _ in range(3):
                    self.check_call(source, project, record, moves)
            record.put_back(before)
        elif call == "twin":
            twin = project.twin()
            self.assertEqual((twin, twin.turned, twin.undo(many=0)), (project, project.turned, len(record.calls)))
            twin.pin(("ordered", record.system.names[0], record.system.names[0])) if is_true(record.system, ("ordered",) + record.system.names[:1] * 2) else None
        else:
            kind = getattr(record, call)(*rest)
            arguments = {"many": rest[0]} if call == "undo" else {}
            positional = () if call == "undo" else rest
            if kind is None:
                found = getattr(project, call)(*positional, **arguments)
                self.assertEqual(found, len(record.calls) if call == "undo" else None)
            else:
                check_error(self, kind, {}, getattr(project, call), *positional, **arguments)
        self.assertEqual((project.system, project.claims, project.turned), (record.system, record.claims, record.turned))
        self.assertEqual((list(project), project.order, len(project)), (list(record.system.names), Order(record.system), len(record.system)))
        self.assertEqual(project.twin().undo(many=0), len(record.calls))
        self.assertTrue(all(claim in project for claim in record.claims))

    def test_too_many_patterns(self):
        # Without one action of it, the order of the wide system can be told.
        small = wide().without(("yb",))
        project = Project(small)
        check_error(self, TooMany, {"limit": 400}, project.put, wide()["yb"])
        self.assertEqual((project.system, project.undo(many=0)), (small, 0))
        target = ("barred", ((("p", "w"), ("q", "w"), ("r", "w")), (("x", "c", 40),)))
        check_error(self, TooMany, {"limit": 400}, project.pin, target)
        check_error(self, InvalidOperation, {}, project.pin, ("barred", ((), (("x", "c", 41),))))
        self.assertEqual((project.claims, project.undo(many=0)), ((), 0))

    def test_too_many_patterns_for_a_claim(self):
        # The claim holds as nobody comes to b; when somebody may, there are too many patterns for it, but not for the order.
        agents = [f"agent {one} s t u v w" for one in "pqr"]
        steps = [f"action {one}{begin}{end} {one} {begin} {end}" for one in "pq" for begin, end in ("st", "tu", "uv", "vw")]
        system = System.from_lines(*agents, "pool x a b", *steps, "action z x a a")
        project = Project(system)
        claim = ("barred", ((("p", "w"), ("q", "w")), (("x", "b", 40),)))
        self.assertEqual(Reach(system, claim[1]).rows, ())
        project.pin(claim)
        project.pin(("ordered", "pst", "pst"))
        check_error(self, TooMany, {"limit": 400}, project.put, Action("go", (("x", "a", "b"),)))
        self.assertEqual((project.system, project.claims), (system, (claim, ("ordered", "pst", "pst"))))


class BlockTest(unittest.TestCase):
    def test_trials(self):
        project = Project(LOCK)
        project.pin(WORK)
        project.put(LOCK["take"])
        before = project.twin()
        with project.trial() as same:
            self.assertIs(same, project)
            project.undo(many=2)
            project.put(OPEN)
            with project.trial():
                project.drop("give")
                self.assertEqual((list(project), project.undo(many=0)), (["take", "work"], 2))
            self.assertEqual((list(project), len(project.turned), project.undo(many=0)), (["give", "take", "work"], 3, 1))
        self.assertEqual((project, project.turned, list(project), project.undo(many=0)), (before, (), ["give", "take", "work"], 2))
        self.assertEqual((project.undo(), project.undo(), project.claims), (1, 0, ()))

    def test_turned_behind_a_block(self):
        project = Project(LOCK)
        project.put(OPEN)
        turned = project.turned
        with project.trial():
            project.undo()
            project.drop("give")
            self.assertEqual(project.turned, ())
        self.assertEqual((project.turned, len(turned)), (turned, 3))
        self.assertEqual(project.during(lambda same: (same.undo(), same.turned)), (0, turned))
        self.assertEqual((project.turned, project.undo(many=0)), (turned, 1))

    def test_a_block_that_ends_by_an_error(self):
        project = Project(LOCK)
        project.pin(WORK)
        with self.assertRaises(Refused):
            with project.trial():
                project.drop("give")
                project.put(OPEN)
        with self.assertRaises(UnknownName):
            project.during(lambda same: [same.unpin(WORK), same.drop("fly")])
        self.assertEqual((list(project), project.claims, project.undo(many=0)), (["give", "take", "work"], (WORK,), 1))

    def test_during(self):
        project = Project(LOCK)
        self.assertEqual(project.during(lambda same: [same is project, same.put(OPEN), len(same.turned)]), [True, None, 3])
        self.assertEqual((project, project.turned), (Project(LOCK), ()))

    def test_twins(self):
        project = Project(LOCK)
        project.put(OPEN)
        twin = project.twin()
        self.assertEqual((twin, twin.turned, twin.undo(many=0)), (project, project.turned, 1))
        other = project.twin()
        self.assertEqual((other.turned, other.undo(), other.system, other.turned), (project.turned, 0, LOCK, project.turned))
        self.assertEqual((project.system["take"], project.undo()), (OPEN, 0))
        self.assertEqual(twin.system["take"], OPEN)
        with project.trial():
            project.drop("give")
            inner = project.twin()
        self.assertEqual((len(inner), len(project)), (2, 3))

    def test_what_was_told_does_not_change(self):
        project = Project(LOCK)
        project.pin(WORK)
        system, claims, order, names = project.system, project.claims, project.order, iter(project)
        project.drop("give")
        project.unpin(WORK)
        self.assertEqual((system, claims, order, list(names)), (LOCK, (WORK,), Order(LOCK), ["give", "take", "work"]))
        system.agents.clear()
        self.assertEqual(project.undo(many=2), 1)
        self.assertEqual(project.system, LOCK)


if __name__ == "__main__":
    unittest.main()
