"""Texts of systems, runs, patterns, certificates and claims. Each value has one text."""

from groupclocks.base.checks import check_system
from groupclocks.base.systems import System
from groupclocks.base.words import is_name
from groupclocks.cover.fields import plain_places
from groupclocks.cover.patterns import is_pattern
from groupclocks.cover.reach import are_patterns, run_in_form
from groupclocks.errors import InvalidOperation, ParseError
from groupclocks.project.project import fits_in
from groupclocks.runs.runs import Run, check_run
from groupclocks.text.lines import (
    lines_of, read_event, read_numbers, read_parts, read_words, write_event, write_numbers, write_parts, write_words,
)


def write_system(system):
    """The text of a system."""
    check_system(system)
    return "\n".join(system.lines)


def write_run(run):
    """The text of a run."""
    check_run(run)
    return "\n".join(_lines_of_run(run))


def write_pattern(system, pattern):
    """The text of a pattern."""
    check_system(system)
    if not is_pattern(system, pattern):
        raise InvalidOperation("this is no pattern")
    return write_parts(pattern)


def write_certificate(system, value):
    """The text of a certificate."""
    check_system(system)
    lines = _lines_of_certificate(system, value)
    if lines is None:
        raise InvalidOperation("this has no form of a certificate")
    return "\n".join(lines)


def write_claim(system, claim):
    """The text of a claim."""
    if not fits_in(system, claim):
        raise InvalidOperation("this is no claim about the system")
    return write_words(claim)


def read_system(text):
    """The system with this text."""
    lines = lines_of(text)
    return System.from_lines(*lines)


def read_run(system, text):
    """The run with this text."""
    check_system(system)
    numbers, events = _read_run(lines_of(text), 0)
    return Run(system, numbers, events)


def read_pattern(system, text):
    """The pattern with this text."""
    check_system(system)
    pattern = _read_only_line(text, read_parts)
    if not is_pattern(system, pattern):
        raise InvalidOperation("there is no such pattern")
    return pattern


def read_certificate(system, text):
    """The certificate with this text."""
    check_system(system)
    lines = lines_of(text)
    if lines[0] == "run":
        numbers, events = _read_run(lines, 1)
        run = Run(system, numbers, events)
        return "run", run.numbers, run.events
    if lines[0] == "closed":
        value = ("closed", tuple(sorted(_read_each(lines, 1, read_parts))))
    else:
        value = _read_only_line(text, _read_shared)
    if _lines_of_certificate(system, value) is None:
        raise InvalidOperation("there is no such certificate")
    return value


def read_claim(system, text):
    """The claim with this text."""
    check_system(system)
    claim = _read_only_line(text, read_words)
    if not fits_in(system, claim):
        raise InvalidOperation("there is no such claim about the system")
    return claim


def _lines_of_run(run):
    """The lines of a run."""
    return [f"numbers {write_numbers(run.numbers)}", *[write_event(event) for event in run.events]]


def _lines_of_certificate(system, value):
    """The lines of a certificate, or None if the value has the form of none."""
    run = run_in_form(system, value)
    if run is not None:
        return ["run", *_lines_of_run(run)]
    if not isinstance(value, tuple) or len(value) != 2:
        return None
    word, told = value
    if word == "shared" and isinstance(told, str) and told in system.agents:
        return [f"shared {told}"]
    if word == "closed" and are_patterns(plain_places(system), told):
        return ["closed", *[write_parts(pattern) for pattern in told]]
    return None


def _read_run(lines, start):
    """The numbers and the events in the lines from one on."""
    if start == len(lines):
        raise ParseError(start)
    word, _, rest = lines[start].partition(" ")
    numbers = read_numbers(rest) if word == "numbers" else None
    if numbers is None:
        raise ParseError(start)
    return numbers, tuple(_read_each(lines, start + 1, read_event))


def _read_each(lines, start, read):
    """What is read from each of the lines from one on."""
    found = [read(line) for line in lines[start:]]
    if None in found:
        raise ParseError(start + found.index(None))
    return found


def _read_only_line(text, read):
    """What is read from a text of one line."""
    lines = lines_of(text)
    told = read(lines[0])
    if told is None:
        raise ParseError(0)
    if len(lines) > 1:
        raise ParseError(1)
    return told


def _read_shared(line):
    """The value of a line like `shared server`, or None."""
    words = line.split(" ")
    return tuple(words) if len(words) == 2 and words[0] == "shared" and is_name(words[1]) else None
