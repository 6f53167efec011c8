"""What several tests use: the document's systems, values of every kind, and the check of its examples."""

import re

from groupclocks import errors
from groupclocks.base.systems import Action, System

SERVE_LINES = (
    "agent server idle busy",
    "pool client out in",
    "action ask client out in, server idle busy",
    "action reply client in out, server busy idle",
    "action think client out out",
)
SERVE = System.from_lines("agent server idle busy", "pool client out in", "action ask client out in, server idle busy", "action reply client in out, server busy idle", "action think client out out")
LOCK = System.from_lines("agent lock free taken", "pool client out in", "action take client out in, lock free taken", "action work client in in", "action give client in out, lock taken free")
MAIL = System.from_lines("agent p at", "agent q at", "pool letter blank sent used", "action send letter blank sent, p at at", "action get letter sent used, q at at")

DEEP = ((((((((1,),),),),),),),)

# Of every kind that the document names for invalid arguments; none of them is a name or a tuple.
NO_TUPLES = (
    None, True, False, 0, 1, -1, 10 ** 59, 10 ** 99, -10 ** 99, "", " ", "Ask", "a1", "a  b", "a-b", "\n", "ask\n",
    "abcdefghi", "x" * 9000, [], [1], ["ask"], [("client", "out", "in")], [[[[[[[[1]]]]]]]], {}, {"ask": "a"},
    {1: 2}, {None: []}, {(1, 2): {}}, {"server": ("idle",)}, Action("ask", (("client", "out", "in"),)), SERVE,
    errors.InvalidName("wrong"), errors.ParseError(None),
)
TUPLES = (
    (), (1,), (None,), (True,), ("Ask",), ("",), ("a", 1), ("a", ["b"]), ([],), ({},), ("a", "b", "c"), DEEP,
    (SERVE,), (Action("ask", (("client", "out", "in"),)),),
)
VALUES = NO_TUPLES + TUPLES


def without_kind(values, kind):
    """Those of the values that are not of this kind."""
    return [value for value in values if not isinstance(value, kind)]


def is_like(one, other):
    """Whether two values are equal and of the same kinds throughout, so that True is not 1."""
    if type(one) is not type(other):
        return False
    if isinstance(one, (tuple, list)):
        return len(one) == len(other) and all(is_like(a, b) for a, b in zip(one, other))
    return one == other


def changed_texts(text):
    """The texts that come from this one if one sign is left out, put in, or put in the place of another."""
    found = []
    for at in range(len(text) + 1):
        found.append(text[:at] + text[at + 1:])
        for sign in " ,-\nazA1":
            found.append(text[:at] + sign + text[at:])
            found.append(text[:at] + sign + text[at + 1:])
    return found


def is_action_text(text):
    """Whether an action has this text, told by other means than the package's."""
    match = re.fullmatch(r"[a-z]{1,8} ([a-z]{1,8}( [a-z]{1,8}){2}(, [a-z]{1,8}( [a-z]{1,8}){2}){0,3})", text)
    if match is None:
        return False
    moves = [part.split() for part in match.group(1).split(",")]
    return all(one <= other for one, other in zip(moves, moves[1:]))


def check_equality(case, one, other, expected):
    """Check == and != between two values, from both sides."""
    for left, right in ((one, other), (other, one)):
        case.assertIs(left == right, expected)
        case.assertIs(left != right, not expected)


def check_examples(case, text, known):
    """Check an example of the document: each line behind >>> gives the value in the line that follows."""
    lines = text.strip().splitlines()
    for line, following in zip(lines, lines[1:] + [""]):
        if not line.startswith(">>> "):
            continue
        if following.startswith("raises "):
            with case.assertRaises(getattr(errors, following.split()[1])):
                eval(line[4:], known)
        else:
            case.assertEqual(repr(eval(line[4:], known)), following)
