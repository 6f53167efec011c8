"""Tests of the shell: the class of stage 16."""

import itertools
import random
import unittest

from groupclocks.base.systems import Action, System
from groupclocks.base.words import write_names
from groupclocks.clocks.carriers import Carriers
from groupclocks.cover.patterns import needs_of
from groupclocks.cover.reach import Reach
from groupclocks.errors import InvalidSystem, NothingToUndo, ParseError, Refused, TooMany
from groupclocks.order.groups import each_partition, loose_actions
from groupclocks.order.pairs import Order
from groupclocks.past.repairs import least_blocks, least_repairs
from groupclocks.project.project import Project, fits_in
from groupclocks.runs.runs import Run
from groupclocks.text.shell import Shell
from groupclocks.text.texts import write_claim, write_pattern, write_system
from tests import slow
from tests.samples import ALONE, LOCK, MAIL, MIXED, SERVE, TWINS, VALUES, changed_texts, check_error, check_examples, check_not_iterable
from tests.test_project import all_claims, is_true, star, wide
from tests.test_repairs import ways
from tests.test_texts import drawn_run

EXAMPLE = """
>>> [shell("holds group ask reply"), shell("fewest think ask"), shell("fewest ask reply"), shell("rows server busy, client out 1"), shell("loose")]
['yes', '2', 'none', '2', 'think']
>>> [shell("groups ask reply"), shell("groups ask think"), shell("least ask reply, think"), shell("repairs think think"), shell("trace 2, ask 0, think 1, reply 0")]
['ask reply', 'none', '-', 'none', '0 1\\n1 2']
>>> [shell("pin always ask, reply"), shell("drop ask"), shell("put action reply client in out"), shell("turned"), shell("undo")]
['done', 'refused always ask, reply', 'done', 'none', 'done']
>>> [shell("holds ordered ask fly"), shell("holds ordered reply ask"), shell("trace 1, reply 0"), shell("fly")]
['operation', 'operation', 'not 0', 'what']
"""


def shell_of(system):
    """A shell over a system."""
    return Shell(write_system(system))


def listed(lines):
    """The lines of an answer."""
    return "\n".join(lines) or "none"


class CommandTest(unittest.TestCase):
    def check(self, shell, answers):
        """Check the answers to some lines, by a call and by run."""
        for line, answer in answers:
            self.assertEqual(shell(line), answer, line)

    def test_examples(self):
        check_examples(self, EXAMPLE, {"shell": shell_of(SERVE)})

    def test_run_and_call_are_the_same(self):
        one, other = shell_of(LOCK), shell_of(LOCK)
        for line in ("holds ordered work work", "fewest work work", "rows client in 1", "groups give take work", "loose", "least take, give", "repairs work work", "blocks client in 2",
                     "trace 2, take 0, work 0", "put action rest client out out", "turned", "drop rest", "pin ordered work work", "unpin ordered work work", "undo", "list", "fly", None):
            self.assertEqual(one(line), other.run(line))
        self.assertEqual(one.project(), other.project())

    def test_answers_beside_the_other_stages(self):
        source = random.Random(1)
        for system in [SERVE, LOCK, MAIL, TWINS, ALONE, MIXED] + [slow.random_system(seed, 2, 1, 3, 4) for seed in range(30)]:
            shell, order, names = shell_of(system), Order(system), system.names
            for one, other in itertools.product(names, repeat=2):
                many = order.least_members(one, other)
                self.check(shell, [(f"fewest {one} {other}", "none" if many is None else str(many)), (f"repairs {one} {other}", listed(map(write_names, least_repairs(system, one, other))))])
            every = list(slow.all_patterns(system, 2))
            for target in source.sample(every, min(len(every), 5)) + [needs_of(system, name) for name in names]:
                text, rows = write_pattern(system, target), Reach(system, target).rows
                self.check(shell, [(f"rows {text}", listed(" ".join(map(str, row)) or "-" for row in rows)), (f"blocks {text}", listed(map(write_names, least_blocks(system, target))))])
            self.check(shell, [("loose", write_names(loose_actions(order))), ("list", write_system(system)), ("turned", "none")])
            for some in [one for many in range(1, len(names) + 1) for one in itertools.combinations(names, many)]:
                first = next(each_partition(order, some), ())
                self.check(shell, [(f"groups {' '.join(some)}", listed(map(write_names, first)))])
            for claim in all_claims(system, source):
                if fits_in(system, claim):
                    self.check(shell, [(f"holds {write_claim(system, claim)}", "yes" if is_true(system, claim) else "no")])
            self.check_traces(shell, system, source)
            self.check_carriers(shell, system, order)

    def check_traces(self, shell, system, source):
        """Check the concurrent pairs of some runs."""
        for _ in range(3):
            run = drawn_run(system, source)
            pairs = [(one, other) for one in range(len(run)) for other in range(one + 1, len(run)) if run.is_concurrent(one, other)]
            line = ", ".join([" ".join(map(str, run.numbers)) or "-"] + [" ".join([name, *map(str, members)]) for name, members in run.events])
            self.check(shell, [(f"trace {line}", listed(f"{one} {other}" for one, other in pairs))])

    def check_carriers(self, shell, system, order):
        """Check the least sets for some groups and all other actions."""
        for name in system.names:
            if order.is_ordered(name, name):
                asked = tuple(other for other in system.names if other != name)
                sets = Carriers(order, (name,), asked).least_sets()
                self.check(shell, [(f"least {name}, {write_names(asked)}", "\n".join(map(write_names, sets)))])

    def test_rows(self):
        self.check(shell_of(ALONE), [("rows p t", "-"), ("rows -", "-"), ("rows p t, q t", "-")])
        self.check(shell_of(MAIL), [("rows letter used 2", "2"), ("rows -", "0"), ("rows letter used 0", "operation"), ("rows letter used 41", "operation"), ("rows fly used", "operation"), ("rows p", "what")])
        self.check(shell_of(LOCK), [("rows client in 2", "none")])
        pools = shell_of(System.from_lines("pool x s t", "pool y s t", "action a x s t", "action b x s t, y s t"))
        self.check(pools, [("rows x t 1", "1 0"), ("rows y t 2", "2 2"), ("rows x t 1, y s 3", "1 3")])

    def test_groups(self):
        shell = shell_of(star(7))
        self.check(shell, [("groups a", "a"), ("groups a ba bb", "a\nba bb"), ("groups -", "operation"), ("groups ba a", "operation"), ("groups a fly", "operation"), ("groups a a", "what"), ("groups a, ba", "what"), ("loose", "-")])
        wide_one = shell_of(System.from_lines("agent p s", *[f"action {letter} p s s" for letter in "abcdefghijklm"]))
        self.check(wide_one, [("groups a b c d e f g h i j k l", "a b c d e f g h i j k l"), ("groups a b c d e f g h i j k l m", "operation"), ("repairs a b", "many 10"), ("blocks p s", "many 10")])

    def test_least(self):
        self.check(shell_of(MAIL), [("least send, get", "get"), ("least send, -", "-"), ("least get, send", "-"), ("least get send, -", "operation"), ("least -, get", "operation"), ("least send, send", "operation"), ("least send", "what"), ("least send, get, -", "what")])
        self.check(shell_of(star(7)), [("least a, ba", "many 6"), ("least a, fly", "operation")])
        either = System.from_lines("agent p s t", "agent q s t u", "agent r s t u", "action a p s t, q s t", "action x q t u, r s t", "action y p t t, r t u", "action z r u u")
        self.check(shell_of(either), [("least a, z", "x\ny"), ("least a, y", "-")])

    def test_repairs_and_blocks(self):
        self.check(shell_of(ways(3)), [("repairs work work", "goa gob goc"), ("repairs goa goa", "none"), ("blocks x t 1", "goa gob goc"), ("blocks x s 1", "none"), ("repairs work fly", "unknown fly"), ("repairs Work work", "what")])
        self.check(shell_of(MAIL), [("blocks letter used 1", "get\nsend"), ("repairs get get", "-"), ("blocks letter used 41", "operation"), ("blocks letter used", "operation"), ("blocks", "what")])
        self.check(shell_of(LOCK), [("blocks client in 2", "-")])

    def test_traces(self):
        self.check(shell_of(SERVE), [("trace 1", "none"), ("trace 0", "none"), ("trace 2, think 0, think 1", "0 1"), ("trace 2, think 0, think 0", "none"), ("trace 1, think 1", "run"), ("trace 1, fly 0", "run"), ("trace -", "run"),
                                     ("trace 2001", "run"), ("trace -1", "run"), ("trace 01", "what"), ("trace 1,think 0", "what"), ("trace 1, think 0,", "what"), ("trace", "what"), ("trace ", "what"), ("trace 1, Think 0", "what"),
                                     ("trace 1, think", "run"), ("trace 2, ask 0, ask 1", "not 1"), ("trace 1" + ", think 0" * 2001, "many 2000"), ("trace 1 1", "run"), ("trace 1, fly x", "what"), ("trace numbers 1", "what")])
        self.check(shell_of(ALONE), [("trace -, left, right", "0 1"), ("trace -, left, left", "not 1"), ("trace -, left 0", "run"), ("trace 0", "run"), ("trace -", "none")])

    def test_changes(self):
        shell = shell_of(LOCK)
        self.check(shell, [
            ("undo", "undo 1"), ("put action take client out in", "done"), ("turned", "take take\ntake work\nwork work"), ("pin ordered work work", "refused ordered work work"), ("turned", "take take\ntake work\nwork work"),
            ("undo", "done"), ("turned", "take take\ntake work\nwork work"), ("pin ordered work work", "done"), ("turned", "none"), ("pin barred client in 2", "done"),
            ("put action take client out in", "refused barred client in 2"), ("list", write_system(LOCK) + "\nclaim barred client in 2\nclaim ordered work work"), ("unpin barred client in 2", "done"),
            ("unpin barred client in 2", "operation"), ("drop work", "refused ordered work work"), ("drop fly", "unknown fly"), ("drop Work", "what"), ("drop", "what"), ("drop give take", "what"),
            ("put action fly guest out in", "operation"), ("put action fly client out in, client in out", "what"), ("put action fly client in out, client out in", "done"), ("put agent p s", "what"), ("put fly client out in", "what"),
            ("drop fly", "done"), ("drop give", "done"), ("list", "\n".join(line for line in LOCK.lines if "give" not in line) + "\nclaim ordered work work"), ("undo", "done"), ("undo", "done"), ("undo", "done"), ("undo", "done"),
            ("undo", "done"), ("undo", "done"), ("undo", "undo 1"), ("list", write_system(LOCK)),
        ])
        one = shell_of(LOCK.without(("give", "take")))
        self.check(one, [("drop work", "operation"), ("list", "agent lock free taken\npool client out in\naction work client in in")])

    def test_claims_of_a_shell(self):
        shell = shell_of(LOCK)
        self.check(shell, [("pin fly", "what"), ("pin ordered work", "what"), ("pin ordered work take", "operation"), ("pin group -", "operation"), ("unpin group give take", "operation"), ("pin enough take, give, give", "done"),
                           ("pin enough take, give, give", "done"), ("list", write_system(LOCK) + "\nclaim enough take, give, give"), ("holds enough take, give, give", "yes"), ("holds", "what"), ("holds ordered  work work", "what")])
        for number in range(2, 21):
            self.check(shell, [(f"pin barred client in {number}", "done")])
        self.check(shell, [("pin barred client in 21", "many 20"), ("pin barred client in 1", "refused barred client in 1"), ("pin barred client in 41", "operation")])

    def test_too_many_patterns(self):
        small = shell_of(wide().without(("yb",)))
        self.check(small, [("rows p w, q w, r w, x c 40", "many 400"), ("put action yb p w w, x c c, x c c", "many 400"), ("pin barred p w, q w, r w, x c 40", "many 400"), ("holds barred p w, q w, r w, x c 40", "many 400")])
        check_error(self, TooMany, {"limit": 400}, Shell, write_system(wide()))

    def test_lines_that_are_almost_commands(self):
        shell = shell_of(SERVE)
        before = shell.project()
        for value in VALUES + ("", " ", "loose ", " loose", "Loose", "loose\n", "list all", "undo 1", "turned x", "holds", "holds ", "holds\ngroup ask", "group ask reply", "fewest ask", "fewest ask reply think", "fewest ask  reply",
                               "rows", "rows ", "rows client in 1\n", "groups", "groups ", "least ask reply", "repairs ask", "trace", "put", "put ", "put action", "put action ", "drop ", "pin", "unpin", "exit", "loose, list", "undo\n",
                               "put action ask client out in, server idle busy\n", "drop ask ", "drop  ask", "list\n", ["loose"], ("loose",)):
            self.assertEqual((shell(value), shell.run(value)), ("what", "what"), value)
        self.assertEqual(shell.project(), before)

    def test_lines_near_right_ones(self):
        for line in ("fewest think ask", "loose", "trace 2, ask 0", "drop ask", "rows client in 1", "groups ask reply", "least ask, reply"):
            for near in sorted(set(changed_texts(line))):
                shell = shell_of(SERVE)
                answer = shell(near)
                self.assertIsInstance(answer, str)
                if "\n" in near or near.split(" ")[0] != line.split(" ")[0] or near != " ".join(near.split()):
                    self.assertEqual(answer, "what", near)


class ProjectTest(unittest.TestCase):
    def test_project(self):
        shell = shell_of(LOCK)
        shell("put action take client out in")
        shell("pin group give")
        project = shell.project()
        self.assertIsInstance(project, Project)
        self.assertEqual((project.system["take"], project.claims, project.turned), (Action.from_line("take client out in"), (("group", ("give",)),), ()))
        check_error(self, NothingToUndo, {"many": 1}, project.undo)
        project.put(LOCK["take"])
        self.assertEqual((shell.project().system["take"], len(shell.project().system)), (Action.from_line("take client out in"), 3))
        shell("drop work")
        self.assertEqual((list(project), list(shell.project())), (["give", "take", "work"], ["give", "take"]))
        self.assertEqual(project.undo(), 0)

    def test_claims_go_along(self):
        shell = shell_of(LOCK)
        shell("pin ordered work work")
        project = shell.project()
        self.assertEqual((project.claims, project.undo(many=0), project.turned), ((("ordered", "work", "work"),), 0, ()))
        check_error(self, Refused, {"claim": ("ordered", "work", "work")}, project.put, Action.from_line("take client out in"))
        project.unpin(("ordered", "work", "work"))
        self.assertEqual(shell("list").split("\n")[-1], "claim ordered work work")

    def test_no_systems(self):
        for value in VALUES:
            if not isinstance(value, str):
                check_error(self, ParseError, {"line": None}, Shell, value)
            else:
                check_error(self, ParseError, {"line": 0}, Shell, value)
        check_error(self, InvalidSystem, {}, Shell, "agent p s")
        check_error(self, ParseError, {"line": 1}, Shell, "agent p s\nx")
        check_not_iterable(self, shell_of(SERVE))

    def test_a_run_in_a_trace(self):
        run = Run(SERVE, (2,), (("ask", (0,)), ("think", (1,)), ("reply", (0,))))
        self.assertEqual([(one, other) for one in range(3) for other in range(one + 1, 3) if run.is_concurrent(one, other)], [(0, 1), (1, 2)])


if __name__ == "__main__":
    unittest.main()
