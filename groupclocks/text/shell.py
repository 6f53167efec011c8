"""A shell: commands about a project, and their answers, as texts."""

from groupclocks.base.systems import Action
from groupclocks.base.words import is_name, write_names
from groupclocks.clocks.carriers import Carriers
from groupclocks.cover.reach import Reach
from groupclocks.errors import (
    InvalidAction, InvalidName, InvalidOperation, InvalidRun, InvalidSystem, NothingToUndo, NotPossible, ParseError,
    Refused, TooMany, UnknownName,
)
from groupclocks.order.groups import each_partition, loose_actions
from groupclocks.past.repairs import least_blocks, least_repairs
from groupclocks.project.project import Project, holds_in
from groupclocks.runs.runs import Run
from groupclocks.text.lines import (
    read_event, read_numbers, read_pair, read_row, read_two_rows, write_numbers, write_words,
)
from groupclocks.text.texts import read_claim, read_pattern, read_system

WHAT = "what"
DONE = "done"


def show_holds(project, rest):
    """Whether a claim holds."""
    return "yes" if holds_in(project.system, read_claim(project.system, rest)) else "no"


def show_fewest(project, rest):
    """The least number of members with which two actions can be concurrent."""
    one, other = _told(read_pair(rest))
    fewest = project.order.least_members(one, other)
    return "none" if fewest is None else str(fewest)


def show_rows(project, rest):
    """The least rows of a target."""
    return _listed([write_numbers(row) for row in Reach(project.system, read_pattern(project.system, rest)).rows])


def show_groups(project, rest):
    """The groups of the first partition of some actions."""
    order, names = project.order, _told(read_row(rest))
    for groups in each_partition(order, names):
        return _listed([write_names(group) for group in groups])
    return "none"


def show_least(project, rest):
    """The least sets of carriers that are enough for a group and asked actions."""
    group, asked = _told(read_two_rows(rest))
    return _listed([write_names(names) for names in Carriers(project.order, group, asked).least_sets()])


def show_repairs(project, rest):
    """The least repairs of two actions."""
    one, other = _told(read_pair(rest))
    return _listed([write_names(names) for names in least_repairs(project.system, one, other)])


def show_blocks(project, rest):
    """The least blocks of a target."""
    target = read_pattern(project.system, rest)
    return _listed([write_names(names) for names in least_blocks(project.system, target)])


def show_trace(project, rest):
    """The concurrent pairs of a run."""
    parts = rest.split(", ")
    numbers = _told(read_numbers(parts[0]))
    events = [_told(read_event(part)) for part in parts[1:]]
    run = Run(project.system, numbers, tuple(events))
    pasts = run.past_bits()
    pairs = [(one, other) for one in range(len(run)) for other in range(one + 1, len(run))]
    return _listed([f"{one} {other}" for one, other in pairs if not pasts[other] >> one & 1])


def do_put(project, rest):
    """Add an action, or replace one."""
    word, _, line = rest.partition(" ")
    if word != "action":
        raise ParseError(None)
    project.put(Action.from_line(line))
    return DONE


def do_drop(project, rest):
    """Take an action away."""
    if not is_name(rest):
        raise ParseError(None)
    project.drop(rest)
    return DONE


def do_pin(project, rest):
    """Pin a claim."""
    project.pin(read_claim(project.system, rest))
    return DONE


def do_unpin(project, rest):
    """Pin a claim no longer."""
    project.unpin(read_claim(project.system, rest))
    return DONE


def show_loose(project):
    """The actions that are in no group."""
    return write_names(loose_actions(project.order))


def show_turned(project):
    """The pairs of actions that the last call has turned."""
    return _listed([f"{one} {other}" for one, other in project.turned])


def show_all(project):
    """The lines of the system and of the claims."""
    return "\n".join([*project.system.lines, *[f"claim {write_words(claim)}" for claim in project.claims]])


def do_undo(project):
    """Take back a call."""
    project.undo()
    return DONE


# The commands that are told something, and those that are not.
COMMANDS = {
    "holds": show_holds, "fewest": show_fewest, "rows": show_rows, "groups": show_groups, "least": show_least,
    "repairs": show_repairs, "blocks": show_blocks, "trace": show_trace, "put": do_put, "drop": do_drop, "pin": do_pin,
    "unpin": do_unpin,
}
BARE_COMMANDS = {"loose": show_loose, "turned": show_turned, "list": show_all, "undo": do_undo}


class Shell:
    """Does the commands of lines for a project, and answers with texts."""

    def __init__(self, text):
        self._project = Project(read_system(text))

    def project(self):
        """An independent project with the same system and claims."""
        return self._project.renewed()

    def run(self, line):
        """Do the command of a line, and return the answer."""
        if not isinstance(line, str) or "\n" in line:
            return WHAT
        try:
            return _answer(self._project, line)
        except ParseError:
            return WHAT
        except InvalidName:
            return "name"
        except InvalidAction:
            return "action"
        except InvalidSystem:
            return "system"
        except InvalidRun:
            return "run"
        except InvalidOperation:
            return "operation"
        except UnknownName as unknown:
            return f"unknown {unknown.wanted}"
        except NotPossible as stuck:
            return f"not {stuck.at}"
        except NothingToUndo as bare:
            return f"undo {bare.many}"
        except TooMany as crowd:
            return f"many {crowd.limit}"
        except Refused as refusal:
            return f"refused {write_words(refusal.claim)}"

    def __call__(self, line):
        return self.run(line)


def _answer(project, line):
    """The answer to a line."""
    if line in BARE_COMMANDS:
        bare = BARE_COMMANDS[line]
        return bare(project)
    word, _, rest = line.partition(" ")
    if word not in COMMANDS:
        return WHAT
    command = COMMANDS[word]
    return command(project, rest)


def _told(value):
    """The value that was read, if there is one."""
    if value is None:
        raise ParseError(None)
    return value


def _listed(lines):
    """The lines of an answer."""
    return "\n".join(lines) if lines else "none"
