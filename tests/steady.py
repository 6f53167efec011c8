"""Finds operators, properties and the like that lead to a change of what they did not make: L5 and L28.

Calls are followed by their names alone, so that what is told may be too much, but not too little.
"""

import ast
import builtins

# What must change nothing but what it made itself, and with it all that it calls.
STEADY = set(
    "eq repr str len iter lt le gt ge ne add sub mul floordiv mod pow and or xor lshift rshift radd rsub rmul rfloordiv rmod"
    " rand ror rxor rlshift rrshift neg pos invert abs bool contains getitem".split()
)
# What may keep its answer, besides properties.
KEEPING = set("contains getitem call lt le gt ge".split())
# Methods of builtin values that change them.
CHANGING = set(
    "append clear extend insert pop remove reverse setdefault update add discard sort appendleft popleft extendleft rotate"
    .split()
)
# Functions that change what they are passed.
CHANGING_CALLS = set("setattr heappush heappop heapify heapreplace heappushpop".split())
MAKING = set("list dict set sorted".split())
LITERALS = (ast.List, ast.Dict, ast.Set, ast.ListComp, ast.DictComp, ast.SetComp)
# What is made in these is not made by the function around them.
INNER = (ast.FunctionDef, ast.Lambda, ast.GeneratorExp)


def check_steady(texts):
    """Complaints about all that operators, properties and the like of a package lead to."""
    package = Package(texts)
    found = package.check_kept_answers()
    for function in reached_by_steady(package):
        found += [f"L5 {function.label}: {complaint}" for complaint in Look(package, function).complaints]
    return sorted(set(found))


def reached_by_steady(package):
    """The operators, properties and the like of a package, and all functions that they lead to."""
    waiting = [function for function in package.functions if function.is_steady()]
    reached = []
    while waiting:
        function = waiting.pop()
        if function not in reached:
            reached.append(function)
            waiting += package.led_to(function)
    return reached


class Function:
    """A function or method of a package, with the name of its class, if it has one."""

    def __init__(self, part, owner):
        self.part = part
        self.owner = owner
        self.label = f"{owner}.{part.name}" if owner else part.name
        self.is_property = any(ast.unparse(one) == "property" for one in part.decorator_list)
        self.does_yield = any(isinstance(inner, (ast.Yield, ast.YieldFrom)) for inner in ast.walk(part))

    def is_steady(self):
        """Whether this is an operator's method, a property or the like."""
        return self.is_property or bool(self.owner and is_special(self.part.name, STEADY))

    def kept_answer(self):
        """The text of the attribute that this keeps its answer in, if it does so in the one form that is allowed."""
        rows = [row for row in self.part.body if not (isinstance(row, ast.Expr) and isinstance(row.value, ast.Constant))]
        if not self.is_property and not is_special(self.part.name, KEEPING):
            return None
        if len(rows) != 2 or not isinstance(rows[0], ast.If) or len(rows[0].body) != 1 or rows[0].orelse:
            return None
        if not isinstance(rows[1], ast.Return) or not isinstance(rows[1].value, ast.Attribute):
            return None
        told = ast.unparse(rows[1].value)
        is_form = ast.unparse(rows[0].test) == f"{told} is None" and ast.unparse(rows[0].body[0]).startswith(f"{told} = ")
        return told if is_form else None


class Package:
    """The functions and methods of a package, and how they call one another."""

    def __init__(self, texts):
        self.trees = [ast.parse(text) for text in texts]
        self.functions, self.attributes, self.classes = [], set(), set()
        for tree in self.trees:
            self._gather(tree, None)

    def _gather(self, part, owner):
        """Note what stands in a part of a file."""
        for inner in ast.iter_child_nodes(part):
            if isinstance(inner, ast.ClassDef):
                self.classes.add(inner.name)
                self._gather(inner, inner.name)
                continue
            if isinstance(inner, ast.FunctionDef):
                self.functions.append(Function(inner, owner))
            if isinstance(inner, ast.Attribute) and isinstance(inner.ctx, ast.Store):
                self.attributes.add(inner.attr)
            self._gather(inner, None if isinstance(inner, ast.FunctionDef) else owner)

    def methods(self, name):
        """The methods with this name."""
        return [function for function in self.functions if function.owner and function.part.name == name]

    def named(self, name):
        """The functions with this name."""
        return [function for function in self.functions if not function.owner and function.part.name == name]

    def making(self, name):
        """The method that makes an object of the class with this name, if there is one."""
        return [function for function in self.methods("__init__") if function.owner == name]

    def led_to(self, function):
        """The functions and methods that a function mentions, and those that it calls without a name."""
        found = []
        for inner in ast.walk(function.part):
            if isinstance(inner, ast.Name):
                found += self.named(inner.id)
            # A class that is not called, as by isinstance, makes no object.
            if isinstance(inner, ast.Call) and isinstance(inner.func, ast.Name):
                found += self.making(inner.func.id)
            # Whatever has the name of a builtin value's method that changes it is judged where it is called.
            if isinstance(inner, ast.Attribute) and inner.attr not in CHANGING | {"__init__"}:
                found += self.methods(inner.attr)
            if isinstance(inner, ast.With):
                found += self.methods("__enter__") + self.methods("__exit__")
        return found

    def check_kept_answers(self):
        """Complaints about answers that are kept and read, or changed, elsewhere."""
        found = []
        for function in [function for function in self.functions if function.kept_answer()]:
            name = function.kept_answer().partition(".")[2]
            own = set(ast.walk(function.part))
            if any(does_mention(part, name) for tree in self.trees for part in ast.walk(tree) if part not in own):
                found.append(f"L5 {function.label}: its answer {name} is not its own")
        return found


def is_special(name, words):
    """Whether this is a name with double underscores around one of some words."""
    return name.startswith("__") and name.endswith("__") and name.strip("_") in words


def does_mention(part, name):
    """Whether a part of a file uses the name of an attribute in another way than by assigning it None."""
    if isinstance(part, ast.Assign) and is_none(part.value):
        return False
    if isinstance(part, (ast.Assign, ast.AugAssign, ast.AnnAssign, ast.For, ast.With, ast.comprehension)):
        return any(isinstance(inner, ast.Attribute) and inner.attr == name and isinstance(inner.ctx, ast.Store)
                   for inner in ast.walk(part))
    if isinstance(part, ast.Attribute):
        return part.attr == name and not isinstance(part.ctx, ast.Store)
    return ((isinstance(part, ast.Constant) and part.value == name) or (isinstance(part, ast.keyword) and part.arg == name)
            or (isinstance(part, ast.MatchClass) and name in part.kwd_attrs))


def is_none(value):
    """Whether this expression is None."""
    return isinstance(value, ast.Constant) and value.value is None


class Look:
    """What one function changes that it may not change, and what it calls without its being a function's name."""

    def __init__(self, package, function):
        self.complaints = []
        self._package = package
        self._function = function
        self._kept = function.kept_answer()
        self._bound = bound_values(function.part)
        lists, objects = set(), set()
        if not function.does_yield:
            lists = {name for name, values in self._bound.items() if all(is_made(value) for value in values)}
            objects = {name for name, values in self._bound.items() if len(values) == 1 and self._is_object(values[0])}
        for row in function.part.body:
            self._go(row, lists, objects, False)

    def _is_object(self, value):
        """Whether this expression makes an object of the package."""
        return isinstance(value, ast.Call) and isinstance(value.func, ast.Name) and value.func.id in self._package.classes

    def _go(self, part, lists, objects, is_repeated):
        """Look at a part: these names have lists, and these have objects, that the function made."""
        is_inner = isinstance(part, INNER)
        if is_inner:
            lists, objects = set(), set()
        if isinstance(part, (ast.Attribute, ast.Subscript)) and not isinstance(part.ctx, ast.Load):
            self._look_at_target(part, lists, set() if is_repeated else objects)
        if isinstance(part, ast.AugAssign):
            # Some classes have in-place operators, which a sign in place might call.
            self.complaints.append(f"changes {ast.unparse(part.target)} in place")
        if isinstance(part, (ast.Global, ast.Nonlocal)):
            self.complaints.append("changes what is not its own")
        if isinstance(part, ast.Call):
            self._look_at_call(part, lists)
        is_repeated = is_repeated or is_inner or isinstance(part, (ast.For, ast.While))
        for inner in ast.iter_child_nodes(part):
            self._go(inner, lists, objects, is_repeated)

    def _look_at_target(self, part, lists, objects):
        """Look at an item or an attribute that is changed."""
        name = part.value.id if isinstance(part.value, ast.Name) else None
        if isinstance(part, ast.Subscript):
            is_own = name in lists
        else:
            is_own = isinstance(part.ctx, ast.Store) and (
                self._is_its_object(name) or ast.unparse(part) == self._kept
                or (name in objects and not self._is_passed_on(name, part)))
        if not is_own:
            self.complaints.append(f"changes {ast.unparse(part)}")

    def _is_its_object(self, name):
        """Whether this is what the method that makes an object calls the object."""
        made = self._function.part.name == "__init__" and self._function.part.args.args
        return bool(made) and name == made[0].arg and self._bound[name] == [None]

    def _is_passed_on(self, name, part):
        """Whether the object with this name is used for more than its attributes in a row above."""
        known = [inner.value for inner in ast.walk(self._function.part) if isinstance(inner, ast.Attribute)]
        called = [inner.func.value for inner in ast.walk(self._function.part)
                  if isinstance(inner, ast.Call) and isinstance(inner.func, ast.Attribute)]
        uses = [inner for inner in ast.walk(self._function.part)
                if isinstance(inner, ast.Name) and inner.id == name and isinstance(inner.ctx, ast.Load)]
        return any(use.lineno <= part.lineno for use in uses if use not in known or use in called)

    def _look_at_call(self, part, lists):
        """Look at what is called."""
        text = ast.unparse(part.func)
        if isinstance(part.func, ast.Attribute):
            is_own = isinstance(part.func.value, ast.Name) and part.func.value.id in lists
            if part.func.attr in CHANGING and not is_own:
                self.complaints.append(f"calls {text}")
            if part.func.attr in self._package.attributes:
                self.complaints.append(f"calls {text}, which is held")
        elif not isinstance(part.func, ast.Name) or part.func.id in self._bound:
            self.complaints.append(f"calls {text}, which it was handed")
        elif part.func.id in CHANGING_CALLS:
            self.complaints.append(f"calls {text}")
        elif not self._is_function(part.func.id):
            self.complaints.append(f"calls {text}, which is no function")

    def _is_function(self, name):
        """Whether this is the name of a builtin, or of a class or a function of the package."""
        return hasattr(builtins, name) or name in self._package.classes or bool(self._package.named(name))


def bound_values(part):
    """The local names of a function, each with all expressions that it is assigned, None for what is no such one."""
    found = {}
    for inner in ast.walk(part):
        if isinstance(inner, (ast.Assign, ast.AnnAssign, ast.NamedExpr)):
            targets = inner.targets if isinstance(inner, ast.Assign) else [inner.target]
            if len(targets) == 1 and isinstance(targets[0], ast.Name):
                found.setdefault(targets[0].id, []).append(inner.value)
                continue
            names = [one.id for target in targets for one in stored_names(target)]
        elif isinstance(inner, (ast.For, ast.comprehension, ast.AugAssign)):
            names = [one.id for one in stored_names(inner.target)]
        elif isinstance(inner, ast.withitem) and inner.optional_vars is not None:
            names = [one.id for one in stored_names(inner.optional_vars)]
        elif isinstance(inner, ast.FunctionDef) and inner is not part:
            names = [inner.name]
        elif isinstance(inner, ast.arg):
            names = [inner.arg]
        elif isinstance(inner, (ast.ExceptHandler, ast.MatchAs, ast.MatchStar)):
            names = [inner.name] if inner.name else []
        else:
            names = []
        for name in names:
            found.setdefault(name, []).append(None)
    return found


def stored_names(target):
    """The names in a target that are assigned."""
    return [inner for inner in ast.walk(target) if isinstance(inner, ast.Name) and isinstance(inner.ctx, ast.Store)]


def is_made(value):
    """Whether this expression makes a new list, dict or set."""
    if isinstance(value, ast.Call) and isinstance(value.func, ast.Name):
        return value.func.id in MAKING
    if isinstance(value, ast.Call) and isinstance(value.func, ast.Attribute):
        return value.func.attr == "copy"
    if isinstance(value, ast.Subscript):
        return isinstance(value.slice, ast.Slice)
    if isinstance(value, ast.BinOp) and isinstance(value.op, ast.Mult):
        return isinstance(value.left, ast.List)
    if isinstance(value, ast.BinOp) and isinstance(value.op, (ast.Add, ast.BitOr)):
        # Where a class has such an operator, one side does not tell that the other one is a list or a dict.
        return is_made(value.left) and is_made(value.right)
    return isinstance(value, LITERALS)
