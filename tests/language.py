"""Finds in the package what breaks a rule of the language, as far as a simple look at the code can tell."""

import ast
import builtins
import io
import os
import re
import tokenize

ALLOWED_BUILTINS = set(
    "len range enumerate zip min max sum abs sorted reversed int str bool bytes list tuple dict set frozenset isinstance"
    " ord repr any all divmod pow getattr hasattr setattr iter next type map Exception ValueError TypeError KeyError"
    " IndexError LookupError ZeroDivisionError ArithmeticError OverflowError RuntimeError NotImplementedError"
    " AttributeError StopIteration NotImplemented property staticmethod classmethod super object float".split()
)
METHODS = set(
    "append clear copy count endswith extend find get index insert isalnum isalpha isdigit islower isspace isupper items"
    " join keys ljust lower lstrip partition pop remove replace reverse rfind rjust rpartition rsplit rstrip setdefault"
    " split splitlines startswith strip update upper values zfill bit_length title capitalize swapcase casefold center"
    " expandtabs removeprefix removesuffix rindex isascii isdecimal isnumeric istitle isidentifier isprintable translate"
    " add discard sort format".split()
)
SPECIAL = set(
    "init eq repr str len enter exit call iter lt le gt ge ne add sub mul floordiv mod pow and or xor lshift rshift radd"
    " rsub rmul rfloordiv rmod rand ror rxor rlshift rrshift iadd isub imul ifloordiv imod ipow iand ior ixor ilshift"
    " irshift neg pos invert abs bool contains getitem setitem".split()
)
BARRED_NAMES = set("register mro elements open input law version_info with_traceback add_note".split())
BARRED_WORDS = re.compile(
    r"\b(typing|typing_extensions|enum|Enum|IntEnum|StrEnum|Flag|IntFlag|Generic|Protocol|ABC|ABCMeta|namedtuple|"
    r"NamedTuple|TypedDict|TYPE_CHECKING|abstractmethod)\b|dataclass|overload|contextmanager"
)
LIBRARY = {
    "heapq": "heappush heappop heapify heapreplace heappushpop", "math": "gcd lcm isqrt comb perm factorial",
    "itertools": "product combinations permutations chain accumulate pairwise islice zip_longest",
    "collections": "defaultdict deque",
}
STATEMENTS = (
    ast.Assign, ast.AugAssign, ast.AnnAssign, ast.If, ast.While, ast.For, ast.Return, ast.Break, ast.Continue, ast.Pass,
    ast.Raise, ast.Assert, ast.Delete, ast.Nonlocal, ast.Global, ast.Match, ast.With, ast.Try, ast.Expr, ast.FunctionDef,
    ast.ClassDef, ast.ImportFrom,
)
PLAIN = (ast.Constant, ast.Tuple, ast.List, ast.Dict, ast.Name, ast.UnaryOp, ast.BinOp, ast.operator, ast.unaryop,
         ast.expr_context)


def package_files(folder):
    """The paths of the files below a folder, without what Python itself puts there."""
    found = []
    for place, folders, files in os.walk(folder):
        folders[:] = sorted(name for name in folders if name != "__pycache__")
        found += [os.path.join(place, name) for name in sorted(files)]
    return found


def package_texts(folder):
    """The dict from the names of the modules below a package's folder to their texts."""
    found = {}
    for path in package_files(folder):
        words = os.path.relpath(path, os.path.dirname(folder))[:-3].split(os.sep)
        with open(path, encoding="utf-8") as file:
            found[".".join(word for word in words if word != "__init__")] = file.read()
    return found


def check_places(folder):
    """Complaints about the files of a package as such: L1 and L14."""
    found, paths = [], package_files(folder)
    if len(paths) > 100:
        found.append("L14 more than 100 files")
    for path in paths:
        if not re.fullmatch(r"[a-z0-9_]+\.py", os.path.basename(path)):
            found.append(f"L1 {path} is no plain .py file")
        if not os.path.isfile(os.path.join(os.path.dirname(path), "__init__.py")):
            found.append(f"L14 no __init__.py beside {path}")
        if os.path.isdir(path[:-3]):
            found.append(f"L14 {path} has the name of a folder")
    return found


def check_circles(sources):
    """Complaints about imports in a circle; `sources` leads from the names of modules to their texts."""
    needs = {name: imported_modules(name, text) for name, text in sources.items()}
    found = []
    for name in sorted(needs):
        reached, rest = set(), list(needs[name])
        while rest:
            other = rest.pop()
            if other not in reached:
                reached.add(other)
                rest += needs.get(other, ())
        if name in reached:
            found.append(f"L16 {name} imports itself, through others")
    return found


def imported_modules(name, text):
    """The modules that a module imports from, with the folders above them that are not above itself."""
    found = []
    for part in ast.walk(ast.parse(text)):
        if isinstance(part, ast.ImportFrom) and part.module:
            words = part.module.split(".")
            above = [".".join(words[:many]) for many in range(1, len(words))]
            found += [part.module] + [other for other in above if not (name + ".").startswith(other + ".")]
    return found


def check_source(text, methods=()):
    """Complaints about one file; `methods` are the names of the package's own methods and attributes."""
    tree = ast.parse(text)
    found = check_signs(text) + check_words(text) + check_module_level(tree) + check_bindings(tree)
    for part in ast.walk(tree):
        found += check_part(part, methods)
    return sorted(set(found))


def check_signs(text):
    """L10 and L14: lengths of lines and of the file, and signs."""
    found = [] if len(text.splitlines()) <= 399 else ["L10 the file has more than 399 lines"]
    for number, line in enumerate(text.split("\n"), 1):
        if len(line) > 120:
            found.append(f"L10 line {number} is too long")
        if not all(" " <= sign <= "~" for sign in line):
            found.append(f"L14 line {number} has another sign")
    return found


def check_words(text):
    """L12 and L17: words that stand nowhere outside of comments and docstrings."""
    found = ["L12 one of the words that stand nowhere"] if re.search(r"\b(_wall|_WallAttr)\b", text) else []
    for token in tokenize.generate_tokens(io.StringIO(text).readline):
        is_docstring = token.type == tokenize.STRING and token.string.startswith('"""')
        if token.type == tokenize.COMMENT or is_docstring:
            continue
        if BARRED_WORDS.search(token.string):
            found.append(f"L17 line {token.start[0]} has {token.string}")
        if token.type == tokenize.NAME and token.string in BARRED_NAMES:
            found.append(f"L17 line {token.start[0]} has {token.string}")
        if token.type == tokenize.STRING and "%" in token.string:
            found.append(f"L27 line {token.start[0]} has a percent sign")
    return found


def check_module_level(tree):
    """L2, L3 and L16: what stands outside of functions and classes."""
    found, ahead = [], True
    for at, part in enumerate(tree.body):
        is_docstring = at == 0 and isinstance(part, ast.Expr) and isinstance(part.value, ast.Constant)
        if isinstance(part, ast.ImportFrom):
            found += check_import(part) + ([] if ahead else [f"L2 line {part.lineno}: an import below other rows"])
            continue
        if isinstance(part, ast.Import):
            found.append(f"L2 line {part.lineno} imports a module")
        if not is_docstring:
            ahead = False
        is_value = (isinstance(part, ast.Assign) and len(part.targets) == 1 and isinstance(part.targets[0], ast.Name)
                    and all(isinstance(inner, PLAIN) for inner in ast.walk(part.value)))
        if not (is_docstring or is_value or isinstance(part, (ast.FunctionDef, ast.ClassDef))):
            found.append(f"L3 line {part.lineno} does not belong at module level")
    return found


def check_import(part):
    """L2 and L16: what is imported, and how."""
    found = []
    own = part.module and (part.module == "groupclocks" or part.module.startswith("groupclocks."))
    known = LIBRARY.get(part.module, "").split()
    for alias in part.names:
        if part.level or alias.name == "*" or alias.asname or not (own or alias.name in known):
            found.append(f"L2 line {part.lineno} imports {alias.name}")
    return found


def check_bindings(tree):
    """L15: names that are bound twice, and names that already mean something else."""
    taken, values = [], []
    for part in tree.body:
        if isinstance(part, ast.ImportFrom):
            taken += [alias.name for alias in part.names]
        elif isinstance(part, ast.ClassDef):
            taken.append(part.name)
        elif isinstance(part, ast.FunctionDef):
            values.append(part.name)
        elif isinstance(part, ast.Assign):
            values += [target.id for target in part.targets if isinstance(target, ast.Name)]
    bound = taken + values
    found = [f"L15 {name} is bound twice" for name in bound if bound.count(name) > 1]
    found += [f"L15 {name} is a builtin" for name in bound if hasattr(builtins, name)]
    for name in local_names(tree):
        if hasattr(builtins, name) or name in taken:
            found.append(f"L15 {name} is a local name")
    return found


def local_names(tree):
    """The names of the parameters and variables in functions, and of what stands in functions and classes."""
    found = []
    for part in ast.walk(tree):
        if isinstance(part, ast.Name) and not isinstance(part.ctx, ast.Load):
            found.append(part.id)
        elif isinstance(part, ast.arg):
            found.append(part.arg)
        elif isinstance(part, ast.ExceptHandler) and part.name:
            found.append(part.name)
    return found


def check_part(part, methods):
    """The rules about single statements and expressions."""
    found = []
    if isinstance(part, ast.stmt) and not isinstance(part, STATEMENTS):
        found.append("L6 another statement")
    if isinstance(part, ast.FunctionDef):
        found += check_function(part)
    if isinstance(part, ast.ClassDef):
        found += check_class(part)
    if isinstance(part, ast.Name):
        found += check_name(part.id)
        if isinstance(part.ctx, ast.Load) and hasattr(builtins, part.id) and part.id not in ALLOWED_BUILTINS:
            found.append(f"L8 {part.id} is not used")
    if isinstance(part, ast.Div) or is_float(part):
        found.append("L7 a float")
    if isinstance(part, ast.Subscript) and any(isinstance(inner, ast.Starred) for inner in ast.walk(part.slice)):
        found.append("L7 a star in an index")
    if isinstance(part, ast.GeneratorExp):
        found.append("L7 a generator expression, although classes have __eq__")
    if isinstance(part, ast.BinOp) and isinstance(part.op, ast.Pow) and not is_small(part.right):
        found.append("L27 an exponent that is no literal from 0 to 64")
    if isinstance(part, ast.Attribute):
        found += check_name(part.attr)
        if isinstance(part.ctx, ast.Load) and part.attr not in METHODS and part.attr not in methods:
            found.append(f"L25 {part.attr} is no known method or attribute")
    if isinstance(part, ast.ExceptHandler) and (part.type is None or ast.unparse(part.type) in (
            "Exception", "TypeError", "ArithmeticError", "OverflowError", "RuntimeError", "AttributeError")):
        found.append("L19 an error of Python's own is caught")
    if isinstance(part, ast.Compare) and any(isinstance(sign, (ast.Is, ast.IsNot)) for sign in part.ops):
        if not all(isinstance(side, ast.Constant) and side.value in (None, True, False) for side in part.comparators):
            found.append("L20 is, without None, True and False")
    return [f"{complaint} (line {getattr(part, 'lineno', '?')})" for complaint in found]


def check_function(part):
    """L4, L5, L8, L10 and L12 for a function or method."""
    found = check_name(part.name)
    if part.end_lineno - part.lineno >= 40:
        found.append(f"L10 {part.name} has more than 40 lines")
    for decorator in part.decorator_list:
        if not re.fullmatch(r"property|staticmethod|classmethod|[a-z_]+\.setter", ast.unparse(decorator)):
            found.append(f"L4 a decorator over {part.name}")
    defaults = part.args.defaults + [value for value in part.args.kw_defaults if value is not None]
    if any(isinstance(inner, (ast.List, ast.Dict, ast.Call)) for value in defaults for inner in ast.walk(value)):
        found.append(f"L4 a default value of {part.name} is not plain")
    return found


def check_class(part):
    """L5 for a class."""
    names = [inner.name for inner in part.body if isinstance(inner, ast.FunctionDef)]
    found = [f"L5 a decorator over {part.name}"] if part.decorator_list else []
    if "__getitem__" in names and "__iter__" not in names and not part.bases:
        found.append(f"L5 {part.name} has no __iter__ beside __getitem__")
    if part.keywords or not all(isinstance(base, ast.Name) for base in part.bases):
        found.append(f"L5 a base of {part.name}")
    return found


def check_name(name):
    """L8 and L12 for a name."""
    if name.startswith("__"):
        plain = name.strip("_") in SPECIAL or name in ("__name__", "__class__")
        return [] if plain and name.endswith("__") else [f"L5 {name}"]
    return [] if re.fullmatch(r"_|_?[A-Za-z][A-Za-z0-9_]*", name) else [f"L12 {name}"]


def is_float(part):
    """Whether this is a number that is no integer."""
    return isinstance(part, ast.Constant) and isinstance(part.value, (float, complex))


def is_small(part):
    """Whether this is a literal from 0 to 64."""
    return isinstance(part, ast.Constant) and isinstance(part.value, int) and 0 <= part.value <= 64


def own_attributes(texts):
    """The names of all methods, properties, class values and attributes of a package."""
    found = set()
    for text in texts:
        for part in ast.walk(ast.parse(text)):
            if isinstance(part, ast.FunctionDef):
                found.add(part.name)
            if isinstance(part, ast.Attribute) and isinstance(part.ctx, ast.Store):
                found.add(part.attr)
    return found


def check_names(texts):
    """L5, L18 and L23 for the whole package: names that mean several things."""
    properties, methods, attributes, generators, functions = set(), set(), set(), [], []
    for text in texts:
        tree = ast.parse(text)
        for part in ast.walk(tree):
            if isinstance(part, ast.ClassDef):
                for inner in part.body:
                    if isinstance(inner, ast.FunctionDef):
                        is_property = any(ast.unparse(one) == "property" for one in inner.decorator_list)
                        (properties if is_property else methods).add(inner.name)
            if isinstance(part, ast.FunctionDef):
                functions.append(part.name)
                if any(isinstance(inner, (ast.Yield, ast.YieldFrom)) for inner in ast.walk(part)):
                    generators.append(part.name)
            if isinstance(part, ast.Attribute) and isinstance(part.ctx, ast.Store):
                attributes.add(part.attr)
    found = [f"L5 {name} is a property and a method" for name in properties & methods]
    found += [f"L18 {name} is an attribute and a method or property" for name in attributes & (properties | methods)]
    found += [f"L23 {name} is a generator and something else" for name in generators if functions.count(name) > 1]
    return sorted(found)
