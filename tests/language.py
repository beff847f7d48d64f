"""What of ../shared/LANGUAGE.md can be checked simply: faults(..) tells where a file breaks a rule.

It checks rows, lines, signs, names, imports, what stands at module level, kinds of statements and
expressions, builtins, methods of builtin values, attributes, how errors are raised and caught, and what
reads a kept range, zip or view. It is narrower than the rules where the package needs no more: no sets, no
lambdas, no decorators but L5's, and no attribute that is called as a method of any class is.
"""

import ast
import builtins
import io
import re
import tokenize

PACKAGE = "sumstand"

LIBRARY = {
    "heapq": {"heappush", "heappop", "heapify", "heapreplace", "heappushpop"},
    "math": {"gcd", "lcm", "isqrt", "comb", "perm", "factorial"},
    "itertools": {
        "product", "combinations", "permutations", "chain", "accumulate", "pairwise", "islice", "zip_longest",
    },
    "collections": {"defaultdict"},
    "__future__": {"annotations"},
}

BUILTINS = set(
    """len range enumerate zip min max sum abs sorted reversed int str bool bytes list tuple dict set
    isinstance ord repr any all divmod iter next map getattr hasattr setattr super property staticmethod
    classmethod object Exception ValueError TypeError KeyError IndexError LookupError ZeroDivisionError
    ArithmeticError OverflowError RuntimeError NotImplementedError AttributeError StopIteration
    NotImplemented""".split()
)

METHODS = set(
    """append clear copy count endswith extend find get index insert isalnum isalpha isdigit islower
    isspace isupper items join keys ljust lower lstrip partition pop remove replace reverse rfind rjust
    rpartition rsplit rstrip setdefault split splitlines startswith strip update upper values zfill
    bit_length title capitalize swapcase casefold center expandtabs removeprefix removesuffix rindex
    isascii isdecimal isnumeric istitle isidentifier isprintable translate sort format""".split()
)

DUNDERS = set(
    """__init__ __eq__ __repr__ __str__ __len__ __enter__ __exit__ __call__ __iter__ __lt__ __le__ __gt__
    __ge__ __ne__ __add__ __sub__ __mul__ __floordiv__ __mod__ __neg__ __contains__ __getitem__
    __setitem__ __bool__""".split()
)

CATCHABLE = {"KeyError", "ZeroDivisionError", "ValueError", "LookupError", "IndexError"}

NO_NAMES = set(
    """register mro elements open input law version_info with_traceback add_note attrgetter breakpoint
    builtins compile copyright credits delattr dir eval exec exit gc globals help id importlib license
    locals methodcaller os quit type vars sys _cold _tuplegetter _outside _record _written_out
    _member_names""".split()
)

NO_WORDS = set(
    """type typing typing_extensions enum Enum IntEnum StrEnum Flag IntFlag Generic Protocol ABC ABCMeta
    namedtuple NamedTuple TypedDict TYPE_CHECKING abstractmethod dataclass overload contextmanager _wall
    _WallAttr""".split()
)

NO_ATTRIBUTES = set(
    """items keys values pop update append clear extend insert remove reverse setdefault sort args encode decode
    hex fromhex format format_map mro""".split()
)

# Calls whose value is walked on the spot, or kept under narrow conditions.
KEPT = {"range", "zip", "enumerate", "reversed", "map"}
VIEWS = {"items", "keys", "values"}

NO_FILES = {"test", "tests", "testing", "site", "conftest", "sitecustomize", "usercustomize", *LIBRARY}

NO_NODES = (
    ast.Global, ast.AsyncFunctionDef, ast.AsyncFor, ast.AsyncWith, ast.Await, ast.Import, ast.Div,
    ast.MatMult, ast.Set, ast.SetComp, ast.Lambda, ast.TryStar,
)

TOP_NODES = (ast.ImportFrom, ast.FunctionDef, ast.ClassDef, ast.Assign)


def faults(name, source, defined):
    """The faults of a file, rising by line: triples of a line, a rule and words.

    name is the name of the file, defined tells the names that each module of the package defines, and
    under the empty name those of all methods.
    """
    found = file_faults(name, source)
    tree = ast.parse(source)
    for check in CHECKS:
        found.extend(check(tree, defined))
    return sorted(found + sign_faults(source))


def defined_in(source):
    """The names that a file defines at module level, without its imports."""
    names = set()
    for node in ast.parse(source).body:
        if isinstance(node, (ast.FunctionDef, ast.ClassDef)):
            names.add(node.name)
        elif isinstance(node, ast.Assign):
            names.update(target.id for target in node.targets if isinstance(target, ast.Name))
    return names


def methods_in(source):
    """The names of the methods of a file's classes."""
    return {
        node.name
        for made in ast.parse(source).body if isinstance(made, ast.ClassDef)
        for node in made.body if isinstance(node, ast.FunctionDef)
    }


def file_faults(name, source):
    found = []
    stem = name.removesuffix(".py")
    if name != "__init__.py" and not re.fullmatch(r"[a-z][a-z0-9_]*\.py", name):
        found.append((0, "L1", "the name of the file"))
    if stem in NO_FILES | NO_NAMES | NO_WORDS | set(dir(builtins)) or stem.startswith(("law_", "test_")):
        found.append((0, "L14", "the name of the file"))
    lines = source.split("\n")
    if len(lines) > 400 or len(lines) == 400 and lines[-1] != "":
        found.append((400, "L10", "more than 399 lines"))
    for at, line in enumerate(lines, 1):
        if len(line) > 120:
            found.append((at, "L10", "more than 120 characters"))
        if not all(" " <= sign <= "~" for sign in line):
            found.append((at, "L14", "a character that is not let"))
    return found


def sign_faults(source):
    """Faults that only the tokens show: signs in strings, and words that stand nowhere."""
    found = []
    last = None
    for token in tokenize.generate_tokens(io.StringIO(source).readline):
        if token.type == tokenize.COMMENT:
            continue
        if token.type == tokenize.STRING and not (last is None or last in (tokenize.NEWLINE, tokenize.INDENT)):
            found.extend((token.start[0], "L17", word) for word in re.findall(r"\w+", token.string) if word in NO_WORDS)
        if token.type == tokenize.STRING:
            if "%" in token.string or re.search(r"\\[^nt\\'\"]", token.string):
                found.append((token.start[0], "L27", "a sign in a string"))
            if re.search(r"\._{1,2}['\"]", token.string) or re.search(r"['\"]__\w*__['\"]", token.string):
                found.append((token.start[0], "L27", "how a string ends"))
        if token.type == tokenize.NAME and token.string in NO_WORDS:
            found.append((token.start[0], "L17", token.string))
        if token.type not in (tokenize.NL, tokenize.COMMENT):
            last = token.type
    return found


def level_faults(tree, defined):
    """What stands at module level, and what is bound there twice."""
    found = []
    bound = []
    for at, node in enumerate(tree.body):
        docstring = at == 0 and isinstance(node, ast.Expr) and isinstance(node.value, ast.Constant)
        if not docstring and not isinstance(node, TOP_NODES):
            found.append((node.lineno, "L3", "a statement at module level"))
        if isinstance(node, ast.Assign):
            if len(node.targets) != 1 or not isinstance(node.targets[0], ast.Name):
                found.append((node.lineno, "L3", "more than one name"))
            if any(isinstance(part, (ast.Call, ast.comprehension)) for part in ast.walk(node)):
                found.append((node.lineno, "L3", "no plain value"))
        if isinstance(node, ast.FunctionDef) and node.decorator_list:
            found.append((node.lineno, "L4", "a decorator"))
        bound.extend((name, node.lineno) for name in bound_by(node))
    names = [name for name, _ in bound]
    found.extend((line, "L15", name) for at, (name, line) in enumerate(bound) if name in names[:at])
    return found


def bound_by(node):
    if isinstance(node, ast.ImportFrom):
        return [alias.asname or alias.name for alias in node.names]
    if isinstance(node, (ast.FunctionDef, ast.ClassDef)):
        return [node.name]
    if isinstance(node, ast.Assign):
        return [target.id for target in node.targets if isinstance(target, ast.Name)]
    return []


def import_faults(tree, defined):
    found = []
    ahead = True
    used = {node.id for node in ast.walk(tree) if isinstance(node, ast.Name)}
    for at, node in enumerate(tree.body):
        if not isinstance(node, ast.ImportFrom):
            ahead = ahead and at == 0 and isinstance(node, ast.Expr)
            continue
        if not ahead:
            found.append((node.lineno, "L2", "an import that is not at the top"))
        for alias in node.names:
            module = node.module or ""
            there = LIBRARY.get(module) or defined.get(module.removeprefix(PACKAGE + "."), set())
            if node.level or alias.asname or alias.name not in there:
                found.append((node.lineno, "L16", f"the import of {alias.name}"))
            if alias.name not in used and module != "__future__":
                found.append((node.lineno, "L2", f"{alias.name} is not used"))
    for node in ast.walk(tree):
        if isinstance(node, ast.ImportFrom) and node not in tree.body:
            found.append((node.lineno, "L2", "an import within a function"))
    return found


def size_faults(tree, defined):
    found = []
    for node in ast.walk(tree):
        if isinstance(node, ast.FunctionDef) and node.end_lineno - node.lineno + 1 > 40:
            found.append((node.lineno, "L10", f"{node.name} has more than 40 lines"))
    return found


def node_faults(tree, defined):
    found = []
    for node in ast.walk(tree):
        line = getattr(node, "lineno", 0)
        if isinstance(node, NO_NODES):
            found.append((line, "L6", node.__class__.__name__))
        if isinstance(node, ast.Constant) and isinstance(node.value, (float, complex)):
            found.append((line, "L7", "a number that is no integer"))
        if isinstance(node, ast.BinOp) and isinstance(node.op, ast.Pow) and not isinstance(node.right, ast.Constant):
            found.append((line, "L27", "an exponent"))
        if isinstance(node, ast.Compare):
            found.extend((line, "L20", "is") for op, side in zip(node.ops, node.comparators) if not is_let(op, side))
        if isinstance(node, ast.ClassDef) and node.decorator_list:
            found.append((line, "L5", "a decorator over a class"))
    return found


def is_let(op, side):
    if not isinstance(op, (ast.Is, ast.IsNot)):
        return True
    return isinstance(side, ast.Constant) and (side.value is None or isinstance(side.value, bool))


def name_faults(tree, defined):
    found = []
    imported = {name for node in tree.body if isinstance(node, ast.ImportFrom) for name in bound_by(node)}
    for node in ast.walk(tree):
        for name in names_made_by(node):
            if not re.fullmatch(r"_?[A-Za-z][A-Za-z0-9_]*|_", name) and name not in DUNDERS:
                found.append((node.lineno, "L12", name))
            if name in NO_NAMES or name.startswith(("_wall", "_pe_", "_dcw_", "_enum_", "_cm_", "_sre")):
                found.append((node.lineno, "L17", name))
            if name in dir(builtins) or name in imported and not isinstance(node, ast.ImportFrom):
                found.append((node.lineno, "L15", name))
        if isinstance(node, ast.Name) and isinstance(node.ctx, ast.Load):
            if node.id == "_" or node.id in dir(builtins) and node.id not in BUILTINS:
                found.append((node.lineno, "L8", node.id))
    return found


def names_made_by(node):
    if isinstance(node, (ast.FunctionDef, ast.ClassDef)):
        return [node.name]
    if isinstance(node, ast.arg):
        return [node.arg]
    if isinstance(node, ast.Name) and not isinstance(node.ctx, ast.Load):
        return [node.id]
    if isinstance(node, (ast.MatchAs, ast.MatchStar, ast.ExceptHandler)) and node.name is not None:
        return [node.name]
    return []


def call_faults(tree, defined):
    """Methods that are called but stand neither in L25 nor in the package."""
    own = {node.name for node in ast.walk(tree) if isinstance(node, ast.FunctionDef)} | METHODS
    own = own.union(*defined.values())
    found = []
    let = class_names(tree)
    for node in ast.walk(tree):
        if isinstance(node, ast.Call) and isinstance(node.func, ast.Attribute) and node.func.attr not in own:
            found.append((node.lineno, "L25", node.func.attr))
        if isinstance(node, ast.Attribute) and re.match(r"__|f_back|tb_next|co_names|args$", node.attr):
            if node.attr != "__init__" and node not in let:
                found.append((node.lineno, "L8", node.attr))
    return found


def attribute_faults(tree, defined):
    """Attributes that are called as a method of some class is, or as L26 lets none be."""
    found = []
    for node in ast.walk(tree):
        if isinstance(node, ast.Attribute) and isinstance(node.ctx, ast.Store):
            if node.attr in defined.get("", set()):
                found.append((node.lineno, "L18", f"{node.attr} is a method, too"))
            if node.attr in NO_ATTRIBUTES:
                found.append((node.lineno, "L26", node.attr))
    return found


def class_names(tree):
    """The attributes of each box.__class__.__name__ that is read, which may be."""
    found = []
    for node in ast.walk(tree):
        if isinstance(node, ast.Attribute) and node.attr == "__name__" and isinstance(node.value, ast.Attribute):
            if node.value.attr == "__class__" and isinstance(node.value.value, (ast.Name, ast.Attribute)):
                found.extend([node, node.value])
    return found


def error_faults(tree, defined):
    found = []
    errors = defined.get("errors", set())
    for node in ast.walk(tree):
        if isinstance(node, ast.Raise) and node.exc is not None:
            made = isinstance(node.exc, ast.Call) and isinstance(node.exc.func, ast.Name)
            if not made or node.exc.func.id not in errors:
                found.append((node.lineno, "L19", "what is raised"))
        if isinstance(node, ast.ExceptHandler):
            caught = node.type.elts if isinstance(node.type, ast.Tuple) else [node.type]
            for part in caught:
                if not isinstance(part, ast.Name) or part.id not in CATCHABLE | errors:
                    found.append((node.lineno, "L19", "what is caught"))
    return found


def kept_faults(tree, defined):
    """Kept ranges, zips and views that something is to read which runs, or may run, at another time."""
    found = []
    for function in ast.walk(tree):
        if not isinstance(function, ast.FunctionDef):
            continue
        kept = {name for node in ast.walk(function) for name in names_kept_by(node)}
        for late in ast.walk(function):
            if late is function or not isinstance(late, (ast.GeneratorExp, ast.Lambda, ast.FunctionDef)):
                continue
            for node in ast.walk(late):
                if isinstance(node, ast.Name) and isinstance(node.ctx, ast.Load) and node.id in kept:
                    found.append((node.lineno, "L23", f"the kept {node.id} is read late"))
    return found


def names_kept_by(node):
    """The names that a statement or := gives to a range, a zip or a view."""
    if isinstance(node, ast.Assign):
        targets = node.targets
    elif isinstance(node, (ast.AnnAssign, ast.NamedExpr)):
        targets = [node.target]
    else:
        return []
    return [target.id for target in targets if isinstance(target, ast.Name) and is_kept(node.value)]


def is_kept(value):
    """Whether a value is a range, a zip or a view, or a choice that may be one."""
    if isinstance(value, ast.IfExp):
        return is_kept(value.body) or is_kept(value.orelse)
    if isinstance(value, ast.BoolOp):
        return any(is_kept(part) for part in value.values)
    if not isinstance(value, ast.Call):
        return False
    if isinstance(value.func, ast.Name):
        return value.func.id in KEPT
    return isinstance(value.func, ast.Attribute) and value.func.attr in VIEWS


CHECKS = (
    level_faults, import_faults, size_faults, node_faults, name_faults, call_faults, attribute_faults, error_faults,
    kept_faults,
)


def ring(imports):
    """A module that imports itself through others, or None; imports tells what each one imports."""
    for start in sorted(imports):
        seen = set()
        waiting = list(imports[start])
        while waiting:
            name = waiting.pop()
            if name == start:
                return start
            if name not in seen:
                seen.add(name)
                waiting.extend(imports.get(name, ()))
    return None


def imported_by(source):
    """The modules of the package that a file imports from."""
    found = set()
    for node in ast.walk(ast.parse(source)):
        if isinstance(node, ast.ImportFrom) and node.module.startswith(PACKAGE + "."):
            found.add(node.module.removeprefix(PACKAGE + "."))
    return found
