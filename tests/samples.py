"""What several tests use: the document's systems, values of every kind, and the check of its examples."""

import re

from groupclocks import errors
from groupclocks.base.systems import Action, System
from groupclocks.clocks.clocks import Clocks
from groupclocks.clocks.watch import Watch
from groupclocks.cover.reach import Reach
from groupclocks.order.pairs import Order
from groupclocks.runs.runs import Run

SERVE_LINES = (
    "agent server idle busy",
    "pool client out in",
    "action ask client out in, server idle busy",
    "action reply client in out, server busy idle",
    "action think client out out",
)
SERVE = System.from_lines("agent server idle busy", "pool client out in", "action ask client out in, server idle busy", "action reply client in out, server busy idle", "action think client out out")
LOCK = System.from_lines("agent lock free taken", "pool client out in", "action take client out in, lock free taken", "action work client in in", "action give client in out, lock taken free")
MAIL = System.from_lines("agent p at", "agent q at", "pool letter blank sent used", "action send letter blank sent, p at at", "action get letter sent used, q at at")

# Systems with what the document's own do not have: equal sources and equal moves, no pools, no agents, several pools.
TWINS = System.from_lines("pool x a b", "action both x a b, x a b", "action swap x a b, x b a", "action three x a a, x a a, x b b")
ALONE = System.from_lines("agent p s t", "agent q s t", "action both p t s, q t t", "action left p s t", "action right q s t")
MIXED = System.from_lines("agent p s t", "pool x a b c", "pool y d", "action join p s t, x a b, x a b, y d d", "action part p t s, x b a", "action rest y d d", "action turn x b c")

DEEP = ((((((((1,),),),),),),),)

# Of every kind that the document names for invalid arguments; none of them is a name or a tuple.
NO_TUPLES = (
    None, True, False, 0, 1, -1, 10 ** 59, 10 ** 99, -10 ** 99, "", " ", "Ask", "a1", "a  b", "a-b", "\n", "ask\n",
    "abcdefghi", "x" * 9000, [], [1], ["ask"], [("client", "out", "in")], [[[[[[[[1]]]]]]]], {}, {"ask": "a"},
    {1: 2}, {None: []}, {(1, 2): {}}, {"server": ("idle",)}, Action("ask", (("client", "out", "in"),)), SERVE,
    errors.InvalidName("wrong"), errors.ParseError(None), Run(SERVE, (1,)), Reach(LOCK, ((), ())), Order(MAIL),
    Clocks(Order(MAIL), ()), Watch(MAIL, ("send",)),
)
TUPLES = (
    (), (1,), (None,), (True,), ("Ask",), ("",), ("a", 1), ("a", ["b"]), ([],), ({},), ("a", "b", "c"), DEEP,
    (SERVE,), (Action("ask", (("client", "out", "in"),)),),
)
VALUES = NO_TUPLES + TUPLES


def without_kind(values, kind):
    """Those of the values that are not of this kind."""
    return [value for value in values if not isinstance(value, kind)]


def is_like(one, other):
    """Whether two values are equal and of the same kinds throughout, so that True is not 1."""
    if type(one) is not type(other):
        return False
    if isinstance(one, (tuple, list)):
        return len(one) == len(other) and all(is_like(a, b) for a, b in zip(one, other))
    return one == other


def changed_texts(text):
    """The texts that come from this one if one sign is left out, put in, or put in the place of another."""
    found = []
    for at in range(len(text) + 1):
        found.append(text[:at] + text[at + 1:])
        for sign in " ,-\nazA1":
            found.append(text[:at] + sign + text[at:])
            found.append(text[:at] + sign + text[at + 1:])
    return found


def is_action_text(text):
    """Whether an action has this text, told by other means than the package's."""
    match = re.fullmatch(r"[a-z]{1,8} ([a-z]{1,8}( [a-z]{1,8}){2}(, [a-z]{1,8}( [a-z]{1,8}){2}){0,3})", text)
    if match is None:
        return False
    moves = [part.split() for part in match.group(1).split(",")]
    return all(one <= other for one, other in zip(moves, moves[1:]))


def check_equality(case, one, other, expected):
    """Check == and != between two values, from both sides."""
    for left, right in ((one, other), (other, one)):
        case.assertIs(left == right, expected)
        case.assertIs(left != right, not expected)


def check_examples(case, text, known):
    """Check an example of the document: each line behind >>> gives the value in the line that follows."""
    lines = text.strip().splitlines()
    for line, following in zip(lines, lines[1:] + [""]):
        if not line.startswith(">>> "):
            continue
        if following.startswith("raises "):
            with case.assertRaises(getattr(errors, following.split()[1])):
                eval(line[4:], known)
        else:
            case.assertEqual(repr(eval(line[4:], known)), following)


def check_error(case, kind, keeps, call, *rest, **more):
    """Check that a call raises an error of just this kind, which keeps these values, told by their names."""
    with case.assertRaises(kind, msg=(rest, more)) as caught:
        call(*rest, **more)
    case.assertIs(type(caught.exception), kind, (rest, more))
    for name, value in keeps.items():
        case.assertTrue(is_like(getattr(caught.exception, name), value), (name, value, rest, more))


def check_late_error(case, kind, keeps, call, *rest):
    """Check that the call of a generator raises such an error, but not before its first result is requested."""
    results = call(*rest)
    check_error(case, kind, keeps, next, results)


def check_not_iterable(case, value):
    """Check that iterating over an object raises TypeError in each way."""
    for walk in (iter, list, tuple, sorted, set, dict, enumerate, lambda one: [*one], max):
        with case.assertRaises(TypeError):
            walk(value)


def check_fixed(case, value, *names):
    """Check that these properties of an object cannot be assigned."""
    for name in names:
        with case.assertRaises(AttributeError):
            setattr(value, name, ())
