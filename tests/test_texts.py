"""Tests of texts: promise 15.1, and the functions of stage 15."""

import itertools
import random
import re
import unittest

from groupclocks.base.systems import System
from groupclocks.cover.reach import Reach
from groupclocks.errors import (
    InvalidOperation, InvalidRun, InvalidSystem, NotPossible, ParseError, TooMany,
)
from groupclocks.order.pairs import Order
from groupclocks.project.project import fits_in
from groupclocks.runs.runs import Run
from groupclocks.text import texts
from groupclocks.text.texts import (
    read_certificate, read_claim, read_pattern, read_run, read_system, write_certificate, write_claim, write_pattern,
    write_run, write_system,
)
from tests import judge, slow
from tests.samples import (
    ALONE, LOCK, MAIL, MIXED, SERVE, SERVE_LINES, TWINS, VALUES, changed_texts, check_error, check_examples, without_kind,
)
from tests.test_project import CLAIMS, NO_CLAIMS, wide

EXAMPLE = """
>>> [write_pattern(SERVE, busy), write_pattern(SERVE, ((), ())), read_pattern(SERVE, "client out 2")]
['server busy, client out 2', '-', ((), (('client', 'out', 2),))]
>>> [write_run(Run(MAIL, (1,), (("send", (0,)), ("get", (0,))))), write_certificate(SERVE, ("shared", "server"))]
['numbers 1\\nsend 0\\nget 0', 'shared server']
>>> write_certificate(LOCK, ("closed", Reach(LOCK, two_in).closed))
'closed\\nclient in 2\\nlock free, client in 1, client out 1'
>>> [read_claim(MAIL, "enough send, get, -"), write_claim(MAIL, ("always", ("get", "send"), "get")), read_certificate(MAIL, "run\\nnumbers 2\\nsend 1")]
[('enough', ('send',), ('get',), ()), 'always get send, get', ('run', (2,), (('send', (1,)),))]
>>> read_run(MAIL, "numbers 2\\nget 0")
raises NotPossible
"""
BUSY, TWO_IN, EMPTY = ((("server", "busy"),), (("client", "out", 2),)), ((), (("client", "in", 2),)), ((), ())
SIXTY = 10 ** 60 - 1
SYSTEMS = (SERVE, LOCK, MAIL, TWINS, ALONE, MIXED)

# What lines are like, told by other means than the package's.
NAME, NUMBER = "[a-z]{1,8}", "(?:0|-?[1-9][0-9]{0,59})"
NAMES = f"(?:-|{NAME}(?: {NAME}){{0,15}})"
PATTERN = f"(?:-|{NAME} {NAME}(?:, {NAME} {NAME})*(?:, {NAME} {NAME} {NUMBER})*|{NAME} {NAME} {NUMBER}(?:, {NAME} {NAME} {NUMBER})*)"
LIKE = {
    "pattern": PATTERN, "numbers": f"numbers (?:-|{NUMBER}(?: {NUMBER})*)", "event": f"{NAME}(?: {NUMBER})*", "shared": f"shared {NAME}",
    "claim": f"ordered {NAME} {NAME}|group {NAMES}|barred {PATTERN}|always {NAMES}, {NAME}|never {NAMES}, {NAME}|enough {NAMES}, {NAMES}, {NAMES}",
}


def is_like(line, kind):
    """Whether a line is like those of a kind, with names that differ where they must."""
    if not re.fullmatch(LIKE[kind], line):
        return False
    if kind != "claim" or line.split()[0] in ("ordered", "barred"):
        return True
    parts = line.split(" ", 1)[1].split(", ")
    rows = parts[:1] if line.split()[0] in ("always", "never") else parts
    return all(len(set(row.split(" "))) == len(row.split(" ")) for row in rows)


def drawn_systems():
    """A few dozen systems."""
    return list(SYSTEMS) + [slow.random_system(seed, 2, 2, 3, 4) for seed in range(40)]


def drawn_run(system, source):
    """A run of a system with a few events."""
    numbers, events = tuple(source.randint(1, 3) for _ in system.pools), ()
    for _ in range(source.randint(0, 5)):
        states = slow.at_end(system, numbers, events)
        possible = [event for event in slow.all_events(system, numbers) if slow.behind(system, states, event) is not None]
        events += (source.choice(possible),) if possible else ()
    return Run(system, numbers, events)


class ExampleTest(unittest.TestCase):
    def test_examples(self):
        known = {name: getattr(texts, name) for name in dir(texts)}
        known.update(SERVE=SERVE, LOCK=LOCK, MAIL=MAIL, Run=Run, Reach=Reach, busy=BUSY, two_in=TWO_IN)
        check_examples(self, EXAMPLE, known)

    def test_systems(self):
        self.assertEqual(write_system(SERVE), "\n".join(SERVE_LINES))
        for system in drawn_systems():
            lines = list(system.lines)
            self.assertEqual(read_system(write_system(system)), system)
            random.Random(1).shuffle(lines)
            self.assertEqual(read_system("\n".join(lines)), system)

    def test_runs(self):
        self.assertEqual((write_run(Run(ALONE, ())), read_run(ALONE, "numbers -\nleft\nright").events), ("numbers -", (("left", ()), ("right", ()))))
        self.assertEqual((write_run(Run(TWINS, (4,), (("both", (1, 3)), ("three", (0, 2, 3))))), write_run(Run(SERVE, (0,)))), ("numbers 4\nboth 1 3\nthree 0 2 3", "numbers 0"))
        source = random.Random(2)
        for system in drawn_systems():
            for _ in range(3):
                run = drawn_run(system, source)
                lines = ["numbers " + (" ".join(map(str, run.numbers)) or "-")] + [" ".join([name, *map(str, members)]) for name, members in run.events]
                self.assertEqual(write_run(run), "\n".join(lines))
                self.assertEqual(read_run(system, write_run(run)), run)
                value = ("run", run.numbers, run.events)
                self.assertEqual((write_certificate(system, value), read_certificate(system, "run\n" + write_run(run))), ("run\n" + write_run(run), value))

    def test_patterns(self):
        source = random.Random(3)
        for system in drawn_systems():
            every = list(slow.all_patterns(system, 2))
            for pattern in source.sample(every, min(len(every), 8)):
                text = ", ".join([" ".join(pair) for pair in pattern[0]] + ["{} {} {}".format(*entry) for entry in pattern[1]]) or "-"
                self.assertEqual((write_pattern(system, pattern), read_pattern(system, text)), (text, pattern))
            chosen = sorted(set(source.sample(every, min(len(every), 5))))
            value, lines = ("closed", tuple(chosen)), [write_pattern(system, one) for one in chosen]
            self.assertEqual(write_certificate(system, value), "\n".join(["closed", *lines]))
            source.shuffle(lines)
            self.assertEqual(read_certificate(system, "\n".join(["closed", *lines])), value)
            for agent in system.agents:
                self.assertEqual((write_certificate(system, ("shared", agent)), read_certificate(system, "shared " + agent)), ("shared " + agent, ("shared", agent)))
        self.assertEqual((write_certificate(SERVE, ("closed", ())), read_certificate(SERVE, "closed"), read_certificate(SERVE, "closed\n-")), ("closed", ("closed", ()), ("closed", (EMPTY,))))

    def test_claims(self):
        lines = ["always take, give", "barred client in 2", "barred lock free, client in 1", "enough give take work, -, -", "enough take, give, give", "group give take", "group work",
                 "ordered give take", "ordered work work"]
        for claim, line in zip(CLAIMS, lines):
            self.assertEqual((write_claim(LOCK, claim), read_claim(LOCK, line)), (line, claim))
        self.assertEqual((read_claim(MAIL, "never get, send"), read_claim(MAIL, "barred -")), (("never", ("get",), "send"), ("barred", EMPTY)))
        self.assertEqual(write_claim(MAIL, ("barred", EMPTY)), "barred -")
        source = random.Random(4)
        for system in drawn_systems():
            names = system.names
            rows = [one for many in range(1, len(names) + 1) for one in itertools.combinations(names, many)]
            for claim in (("ordered", names[0], names[-1]), ("group", source.choice(rows)), ("barred", source.choice(list(slow.all_patterns(system, 2)))),
                          ("always", source.choice(rows), source.choice(names)), ("never", source.choice(rows), source.choice(names))):
                self.assertEqual(read_claim(system, write_claim(system, claim)), claim)

    def test_many_digits(self):
        pattern = ((), (("client", "in", SIXTY),))
        self.assertEqual((read_pattern(SERVE, write_pattern(SERVE, pattern)), len(write_pattern(SERVE, pattern))), (pattern, 70))
        check_error(self, ParseError, {"line": 0}, read_pattern, SERVE, f"client in {SIXTY + 1}")
        check_error(self, InvalidOperation, {}, read_pattern, SERVE, f"client in -{SIXTY}")
        check_error(self, ParseError, {"line": 0}, read_pattern, SERVE, f"client in -{SIXTY + 1}")
        check_error(self, InvalidRun, {}, read_run, SERVE, f"numbers {SIXTY}")
        check_error(self, ParseError, {"line": 0}, read_run, SERVE, f"numbers {SIXTY + 1}")
        check_error(self, ParseError, {"line": 1}, read_run, SERVE, f"numbers 2\nask {SIXTY + 1}\nask x")
        check_error(self, InvalidRun, {}, read_run, SERVE, f"numbers 2\nask {SIXTY}")
        for number in ("00", "01", "-0", "+1", "-01", "--1", "1.0", "1e1", "", "0x1", "1_0"):
            check_error(self, ParseError, {"line": 0}, read_pattern, SERVE, f"client in {number}")
            check_error(self, ParseError, {"line": 0}, read_run, SERVE, f"numbers {number}")
            check_error(self, ParseError, {"line": 1}, read_run, SERVE, f"numbers 1\nask {number}")


class NearTest(unittest.TestCase):
    def test_lines_near_right_patterns(self):
        for line in ("server busy, client out 2", "-", "client in 1, client out 12"):
            for text in sorted(set(changed_texts(line))):
                self.check_text(read_pattern, write_pattern, SERVE, text, "pattern")

    def test_lines_near_right_claims(self):
        for line in ("ordered work work", "group give take", "barred lock free, client in 1", "enough take, give, give", "always take, give", "never give, take", "enough take, -, work"):
            for text in sorted(set(changed_texts(line))):
                self.check_text(read_claim, write_claim, LOCK, text, "claim")

    def check_text(self, read, write, system, text, kind):
        """Check what is read from a text of one line, or of more."""
        lines = text.split("\n")
        if not is_like(lines[0], kind):
            check_error(self, ParseError, {"line": 0}, read, system, text)
        elif len(lines) > 1:
            check_error(self, ParseError, {"line": 1}, read, system, text)
        else:
            try:
                self.assertEqual(write(system, read(system, text)), text)
            except InvalidOperation:
                pass

    def test_texts_near_right_runs(self):
        for before, text in (("", "numbers 2\nsend 0\nget 0"), ("run\n", "numbers 2\nsend 1")):
            for near in sorted(set(changed_texts(text))):
                lines = near.split("\n")
                wrong = [at for at, line in enumerate(lines) if not is_like(line, "numbers" if at == 0 else "event")]
                read = read_certificate if before else read_run
                if wrong:
                    check_error(self, ParseError, {"line": wrong[0] + (1 if before else 0)}, read, MAIL, before + near)
                    continue
                try:
                    found = read(MAIL, before + near)
                    self.assertEqual(write_certificate(MAIL, found) if before else write_run(found), before + near)
                except (InvalidRun, NotPossible):
                    words = [line.split() for line in lines]
                    events = tuple((row[0], tuple(map(int, row[1:]))) for row in words[1:])
                    self.assertFalse(judge.is_run(MAIL, ("run", tuple(int(word) for word in words[0][1:] if word != "-"), events)))

    def test_texts_near_right_certificates(self):
        text = "closed\nclient in 2\nlock free, client in 1, client out 1"
        for near in sorted(set(changed_texts(text))):
            lines = near.split("\n")
            if lines[0] != "closed":
                check_error(self, ParseError, {"line": 0}, read_certificate, LOCK, near)
                continue
            wrong = [at for at, line in enumerate(lines) if at and not is_like(line, "pattern")]
            if wrong:
                check_error(self, ParseError, {"line": wrong[0]}, read_certificate, LOCK, near)
            else:
                try:
                    self.assertEqual(sorted(write_certificate(LOCK, read_certificate(LOCK, near)).split("\n")), sorted(lines))
                except InvalidOperation:
                    pass
        for near in sorted(set(changed_texts("shared lock"))):
            lines = near.split("\n")
            if not is_like(lines[0], "shared"):
                check_error(self, ParseError, {"line": 0}, read_certificate, LOCK, near)
            elif len(lines) > 1:
                check_error(self, ParseError, {"line": 1}, read_certificate, LOCK, near)
            else:
                self.assertEqual(read_certificate(LOCK, near), ("shared", "lock")) if near == "shared lock" else check_error(self, InvalidOperation, {}, read_certificate, LOCK, near)

    def test_texts_near_right_systems(self):
        text = "\n".join(LOCK.lines[:3])
        for near in sorted(set(changed_texts(text))):
            lines = near.split("\n")
            try:
                expected = System.from_lines(*lines)
            except (ParseError, InvalidSystem) as error:
                check_error(self, type(error), {"line": error.line} if isinstance(error, ParseError) else {}, read_system, near)
                continue
            self.assertEqual(read_system(near), expected)


class ErrorTest(unittest.TestCase):
    def test_no_systems_and_runs(self):
        for value in without_kind(VALUES, System):
            check_error(self, InvalidSystem, {}, write_system, value)
            for call in (write_pattern, write_certificate, write_claim, read_run, read_pattern, read_certificate, read_claim):
                check_error(self, InvalidSystem, {}, call, value, None)
        for value in without_kind(VALUES, Run):
            check_error(self, InvalidRun, {}, write_run, value)

    def test_no_texts(self):
        for value in without_kind(VALUES, str):
            check_error(self, ParseError, {"line": None}, read_system, value)
            for call in (read_run, read_pattern, read_certificate, read_claim):
                check_error(self, ParseError, {"line": None}, call, SERVE, value)
        for value in [value for value in VALUES if isinstance(value, str)]:
            check_error(self, ParseError, {"line": 0}, read_system, value)
            for call in (read_run, read_pattern, read_certificate, read_claim):
                check_error(self, ParseError, {"line": 0}, call, SERVE, value)

    def test_no_patterns_and_claims(self):
        for value in VALUES + (((("server", "busy"),), ()), ((), (("client", "in", 0),)), ((), (("client", "in", True),)), ((), (("client", "out", 1), ("client", "in", 1))), [(), ()]):
            if not judge.is_pattern(LOCK, value):
                check_error(self, InvalidOperation, {}, write_pattern, LOCK, value)
        for value in VALUES + NO_CLAIMS:
            check_error(self, InvalidOperation, {}, write_claim, LOCK, value)

    def test_no_certificates(self):
        two = ((), (("client", "in", 1),)), ((), (("client", "in", 2),))
        for value in VALUES + (
            ("closed",), ("closed", two, ()), ("closed", two[::-1]), ("closed", list(two)), ("closed", (two[0], two[0])), ("closed", (((), (("guest", "in", 1),)),)), ("closed", None),
            ("run", (1,)), ("run", (1,), (("give", (0,)),)), ("run", (True,), ()), ("run", (1,), [("take", (0,))]), ("run", (1,), (("take", (True,)),)), ("shared", "client"), ("shared", "fly"),
            ("shared", ("lock",)), ("shared", "lock", ()), ["shared", "lock"], (["shared"], "lock"), ("shared", None), ("Closed", two), ("shared", ["lock"]),
        ):
            check_error(self, InvalidOperation, {}, write_certificate, LOCK, value)
        for many, right in ((2000, True), (2001, False)):
            patterns = tuple(((), (("client", "in", number),)) for number in range(1, many + 1))
            text = "\n".join(["closed"] + [f"client in {number}" for number in range(1, many + 1)])
            if right:
                self.assertEqual((write_certificate(LOCK, ("closed", patterns)), read_certificate(LOCK, text)), (text, ("closed", patterns)))
            else:
                check_error(self, InvalidOperation, {}, write_certificate, LOCK, ("closed", patterns))
                check_error(self, InvalidOperation, {}, read_certificate, LOCK, text)

    def test_lines_that_are_none_come_first(self):
        for call, text, line in (
            (read_run, "numbers 9999\nfly 0\nask 0 x", 2), (read_run, "numbers 1\nreply 0\n", 2), (read_run, "numbers 1\n\nfly", 1), (read_run, "numbers 1 \nfly", 0), (read_run, "", 0),
            (read_run, "numbers", 0), (read_run, "numbers - -", 0), (read_run, "numbers 1, 2", 0), (read_run, "number 1", 0), (read_run, " numbers 1", 0), (read_run, "numbers 1\nAsk 0", 1),
            (read_certificate, "run", 1), (read_certificate, "run\n", 1), (read_certificate, "run\nnumbers 9\nask 0\nask", None), (read_certificate, "run\nask 0", 1), (read_certificate, "", 0),
            (read_certificate, "closed\nguest in 1\nclient in 1, server busy", 2), (read_certificate, "closed\n", 1), (read_certificate, "shared server\n", 1), (read_certificate, "shared", 0),
            (read_certificate, "shared server client", 0), (read_certificate, "shared Server\nx", 0), (read_certificate, "shared fly\nx", 1), (read_certificate, "open\nx", 0),
            (read_pattern, "fly fly\n-", 1), (read_pattern, "client in 1, server busy", 0), (read_pattern, "-, client in 1", 0), (read_pattern, "server busy,client in 1", 0),
            (read_claim, "ordered ask reply\n", 1), (read_claim, "ordered fly", 0), (read_claim, "idle ask", 0), (read_claim, "group ask ask", 0), (read_claim, "group", 0), (read_claim, "group ", 0),
            (read_claim, "always ask", 0), (read_claim, "always ask, reply think", 0), (read_claim, "always ask, -", 0), (read_claim, "enough ask, reply", 0), (read_claim, "enough ask, reply, -, -", 0),
            (read_claim, "group " + " ".join("abcdefghijklmnopq"), 0), (read_claim, "barred", 0), (read_claim, "barred client in 1, server busy", 0), (read_claim, "barred ", 0),
        ):
            if line is None:
                check_error(self, InvalidRun, {}, call, SERVE, text)
            else:
                check_error(self, ParseError, {"line": line}, call, SERVE, text)
        check_error(self, ParseError, {"line": 2}, read_system, "agent server idle\nagent fly at\nx")
        check_error(self, ParseError, {"line": 1}, read_system, "agent server idle\npool server out\nx")
        check_error(self, ParseError, {"line": 1}, read_system, "agent server idle\n")

    def test_values_that_there_are_none_of(self):
        for call, text, kind in (
            (read_run, "numbers -", InvalidRun), (read_run, "numbers 1 2", InvalidRun), (read_run, "numbers -1", InvalidRun), (read_run, "numbers 2001", InvalidRun), (read_run, "numbers 1\nfly 0", InvalidRun),
            (read_run, "numbers 1\nask", InvalidRun), (read_run, "numbers 1\nask 1", InvalidRun), (read_run, "numbers 1\nask 0 0", InvalidRun), (read_run, "numbers 1\nask -1", InvalidRun),
            (read_pattern, "fly fly", InvalidOperation), (read_pattern, "client in", InvalidOperation), (read_pattern, "server busy 1", InvalidOperation), (read_pattern, "server busy, server idle", InvalidOperation),
            (read_pattern, "client in 0", InvalidOperation), (read_pattern, "client out 1, client in 1", InvalidOperation), (read_pattern, "client in 1, client in 1", InvalidOperation),
            (read_certificate, "closed\nclient in 1\nclient in 1", InvalidOperation), (read_certificate, "closed\nfly fly", InvalidOperation), (read_certificate, "shared client", InvalidOperation),
            (read_claim, "ordered reply ask", InvalidOperation), (read_claim, "group -", InvalidOperation), (read_claim, "group think ask", InvalidOperation), (read_claim, "barred client in 41", InvalidOperation),
            (read_claim, "enough think, -, -", InvalidOperation), (read_claim, "always -, ask", InvalidOperation), (read_claim, "never ask, fly", InvalidOperation),
        ):
            check_error(self, kind, {}, call, SERVE, text)
        check_error(self, InvalidSystem, {}, read_system, "agent server idle")
        check_error(self, InvalidSystem, {}, read_system, "action ask client out in")
        for before, call in (("", read_run), ("run\n", read_certificate)):
            check_error(self, NotPossible, {"at": 1}, call, SERVE, before + "numbers 2\nask 0\nask 1")
            longer = before + "numbers 1" + "\nthink 0" * 2001
            check_error(self, TooMany, {"limit": 2000}, call, SERVE, longer)
            check_error(self, InvalidRun, {}, call, SERVE, longer + "\nfly")
            self.assertEqual(len(read_run(SERVE, longer[len(before):-len("\nthink 0")])), 2000)

    def test_too_many_patterns_for_claims(self):
        system = wide()
        many = system.names[:10]
        claim = ("enough", many, (), ())
        check_error(self, TooMany, {"limit": 400}, Order, system)
        check_error(self, TooMany, {"limit": 400}, write_claim, system, claim)
        check_error(self, TooMany, {"limit": 400}, read_claim, system, f"enough {' '.join(many)}, -, -")
        self.assertEqual(read_claim(system, "group xa"), ("group", ("xa",)))
        self.assertTrue(fits_in(system, ("group", ("xa",))))


if __name__ == "__main__":
    unittest.main()
