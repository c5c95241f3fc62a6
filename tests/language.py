"""A look at files of the package by the rules of the subset of Python in which they are written.

It finds what is plainly against a rule. It is narrower than the rules where that is simpler: what the
package does not use (generators, decimal formats, stars in calls ..) is refused as a whole.
"""

import ast
import builtins
import io
import keyword
import re
import tokenize

PACKAGE = "nearandfar"
LIBRARY = {
    "heapq": {"heappush", "heappop", "heapify", "heapreplace", "heappushpop"},
    "math": {"gcd", "lcm", "isqrt", "comb", "perm", "factorial"},
    "itertools": {"product", "combinations", "permutations"},
}
BUILTINS = set("""len range enumerate zip min max sum abs sorted reversed int str bool list tuple dict set isinstance ord repr
any all divmod ValueError LookupError ArithmeticError True False None""".split())
METHODS = set("""append clear copy count endswith extend find get index insert isalnum isalpha isdigit islower isspace isupper
items join keys ljust lower lstrip partition pop remove replace reverse rfind rjust rpartition rsplit rstrip setdefault split
splitlines startswith strip update upper values zfill bit_length add discard""".split())
DUNDERS = set("""__init__ __eq__ __repr__ __str__ __len__ __enter__ __exit__ __lt__ __le__ __gt__ __ge__ __ne__ __bool__""".split())
NOWHERE = set("register mro elements open input law version_info with_traceback add_note".split())
NO_WORDS = set("""type typing typing_extensions enum Enum IntEnum StrEnum Flag IntFlag Generic Protocol ABC ABCMeta namedtuple
NamedTuple TypedDict TYPE_CHECKING abstractmethod""".split())
NO_NAMES = set("""attrgetter breakpoint builtins compile copyright credits delattr dir eval exec exit gc getattr globals hasattr
help id importlib license locals methodcaller os quit setattr super type vars sys""".split())
NO_NODES = (
    ast.AsyncFunctionDef, ast.AsyncFor, ast.AsyncWith, ast.Await, ast.Global, ast.Yield, ast.YieldFrom, ast.GeneratorExp,
    ast.NamedExpr, ast.Import, ast.Div, ast.MatMult, ast.AnnAssign,
)
SCOPES = (ast.FunctionDef, ast.Lambda, ast.ClassDef)


def faults(name, text):
    """A list of what is against the rules in a file of the package."""
    found = list(faults_of_lines(name, text))
    tree = ast.parse(text)
    for node in ast.walk(tree):
        for child in ast.iter_child_nodes(node):
            child.above = node
    for look in (module_level, imports, names, functions, classes, expressions, calls, errors, sets):
        found += [f"{name}:{line}: {what}" for line, what in look(tree)]
    return found


def faults_of_lines(name, text):
    if not re.fullmatch(r"[a-z_][a-z0-9_]*\.py", name):
        yield f"{name}: L1 L14 name of the file"
    lines = text.split("\n")
    if len(lines) - 1 > 399:
        yield f"{name}: L10 too many lines"
    for number, line in enumerate(lines, 1):
        if len(line) > 120:
            yield f"{name}:{number}: L10 long line"
        if not all(" " <= sign <= "~" for sign in line):
            yield f"{name}:{number}: L14 character"
        if "_wall" in line or "_WallAttr" in line:
            yield f"{name}:{number}: L12 word"
    for token in tokenize.generate_tokens(io.StringIO(text).readline):
        if token.type in (tokenize.NAME, tokenize.STRING) and not token.string.startswith(('"""', "'''")):
            if set(re.findall(r"\w+", token.string)) & NO_WORDS:
                yield f"{name}:{token.start[0]}: L17 word {token.string}"
        if token.type == tokenize.STRING and ("%" in token.string or re.search(r"\\[^nt\\\"']", token.string)):
            yield f"{name}:{token.start[0]}: L27 string {token.string}"
        if token.type == tokenize.STRING and re.match(r"[a-zA-Z]*[\"']__", token.string):
            yield f"{name}:{token.start[0]}: L27 string {token.string}"


def is_plain(node, above):
    """Whether an expression at module level is a plain value, or one over functions that are defined above."""
    if isinstance(node, ast.Name):
        return node.id in above
    if isinstance(node, (ast.Dict, ast.List)):
        items = node.elts if isinstance(node, ast.List) else node.keys + node.values
        return all(is_plain(item, above) and not has_within(item, (ast.Dict, ast.List)) for item in items)
    if isinstance(node, ast.Tuple):
        return all(is_plain(item, above) and not has_within(item, (ast.Dict, ast.List)) for item in node.elts)
    if isinstance(node, ast.UnaryOp):
        return isinstance(node.op, ast.USub) and is_plain(node.operand, ())
    return isinstance(node, ast.Constant) and not isinstance(node.value, (float, complex))


def has_within(node, kinds):
    return any(isinstance(part, kinds) for part in ast.walk(node))


def is_docstring(node):
    return isinstance(node, ast.Expr) and isinstance(node.value, ast.Constant) and isinstance(node.value.value, str)


def module_level(tree):
    above = set()
    for node in tree.body:
        if isinstance(node, ast.FunctionDef):
            above.add(node.name)
        if isinstance(node, ast.Assign):
            if len(node.targets) != 1 or not isinstance(node.targets[0], ast.Name) or not is_plain(node.value, above):
                yield node.lineno, "L3 assignment at module level"
        elif not is_docstring(node) and not isinstance(node, (ast.ImportFrom, ast.FunctionDef, ast.ClassDef)):
            yield node.lineno, "L3 statement at module level"


def imports(tree):
    top = True
    for node in tree.body:
        top = top and (is_docstring(node) or isinstance(node, ast.ImportFrom))
        if isinstance(node, ast.ImportFrom):
            if not top:
                yield node.lineno, "L2 import is not at the top"
            own = node.module is not None and re.fullmatch(PACKAGE + r"\.[a-z_]+", node.module)
            for alias in node.names:
                if node.level or alias.asname or alias.name == "*" or not (own or alias.name in LIBRARY.get(node.module, ())):
                    yield node.lineno, "L2 import"
    for node in ast.walk(tree):
        if isinstance(node, ast.ImportFrom) and node.above is not tree:
            yield node.lineno, "L2 import is not at the top"


def imported(tree):
    return {alias.name for node in tree.body if isinstance(node, ast.ImportFrom) for alias in node.names}


def bound(tree):
    """All names that are bound, with their lines, but those of imports and methods."""
    for node in ast.walk(tree):
        if isinstance(node, ast.Name) and isinstance(node.ctx, ast.Store):
            yield node.lineno, node.id, node
        elif isinstance(node, ast.arg):
            yield node.lineno, node.arg, node
        elif isinstance(node, ast.ExceptHandler) and node.name:
            yield node.lineno, node.name, node
        elif isinstance(node, (ast.FunctionDef, ast.ClassDef)) and not isinstance(node.above, ast.ClassDef):
            yield node.lineno, node.name, node


def names(tree):
    taken = imported(tree) | {node.name for node in tree.body if isinstance(node, ast.ClassDef)}
    tops = [name for _, name, node in bound(tree) if node in tree.body] + sorted(imported(tree))
    tops += [part.id for node in tree.body if isinstance(node, ast.Assign) for part in node.targets if isinstance(part, ast.Name)]
    for name in set(tops):
        if tops.count(name) > 1:
            yield 1, f"L15 {name} is bound twice"
    for line, name, node in bound(tree):
        if not re.fullmatch(r"_?[a-zA-Z][a-zA-Z0-9_]*|_", name) or keyword.issoftkeyword(name) and name != "_":
            yield line, f"L12 name {name}"
        if hasattr(builtins, name) or name in NO_NAMES | NOWHERE:
            yield line, f"L8 L15 L17 name {name}"
        if name in taken and node not in tree.body:
            yield line, f"L15 {name} is a class or an import"
    for node in ast.walk(tree):
        if isinstance(node, ast.Name) and isinstance(node.ctx, ast.Load):
            if node.id == "_":
                yield node.lineno, "L12 _ is read"
            if hasattr(builtins, node.id) and node.id not in BUILTINS | {"property", "classmethod"}:
                yield node.lineno, f"L8 builtin {node.id}"
        if isinstance(node, ast.Attribute) and (node.attr in NOWHERE or node.attr.startswith("__")):
            yield node.lineno, f"L8 L17 attribute {node.attr}"


def functions(tree):
    for node in ast.walk(tree):
        if isinstance(node, ast.FunctionDef):
            if node.end_lineno - node.lineno + 1 > 40:
                yield node.lineno, "L10 long function"
            if node.returns or any(argument.annotation for argument in node.args.args):
                yield node.lineno, "L21 annotation"
            if node.args.kwonlyargs or node.args.vararg or node.args.kwarg or node.args.posonlyargs or node.args.defaults:
                yield node.lineno, "L4 parameters"
            in_class = isinstance(node.above, ast.ClassDef)
            for decorator in node.decorator_list:
                if not in_class or not isinstance(decorator, ast.Name) or decorator.id not in ("property", "classmethod"):
                    yield node.lineno, "L4 decorator"


def classes(tree):
    for node in ast.walk(tree):
        if isinstance(node, ast.ClassDef):
            if node.above is not tree or node.decorator_list or node.keywords or len(node.bases) > 1:
                yield node.lineno, "L5 class"
            seen = set()
            for inner in node.body:
                if isinstance(inner, ast.FunctionDef):
                    if inner.name in seen or inner.name.startswith("__") and inner.name not in DUNDERS:
                        yield inner.lineno, f"L5 L18 method {inner.name}"
                    seen.add(inner.name)
                elif not is_docstring(inner):
                    yield inner.lineno, "L5 row of a class"
            stored = {part.attr for part in ast.walk(node) if isinstance(part, ast.Attribute) and isinstance(part.ctx, ast.Store)}
            for name in sorted(stored & seen):
                yield node.lineno, f"L18 {name} is a method and an attribute"
    yield from dunder_rows(tree)


def dunder_rows(tree):
    for node in ast.walk(tree):
        if not isinstance(node, ast.FunctionDef) or not node.name.startswith("__"):
            continue
        returns = [inner for inner in ast.walk(node) if isinstance(inner, ast.Return)]
        if node.name == "__init__" and returns:
            yield node.lineno, "L28 return in __init__"
        if node.name in ("__str__", "__repr__", "__len__"):
            wanted = ("len",) if node.name == "__len__" else ("str", "repr")
            for inner in returns:
                called = inner.value.func if isinstance(inner.value, ast.Call) else None
                if not isinstance(called, ast.Name) or called.id not in wanted:
                    yield inner.lineno, f"L28 return of {node.name}"
        if node.name == "__exit__":
            yield from rows_of_exit(node)
        if node.name not in ("__init__", "__enter__", "__exit__"):
            for inner in ast.walk(node):
                if isinstance(inner, (ast.Assign, ast.AugAssign, ast.Delete)):
                    yield inner.lineno, f"L28 {node.name} changes something"


def rows_of_exit(node):
    """What is not allowed in __exit__: all but names and attributes given to attributes, and asking whether kind is None."""
    inner = [part for row in node.body for part in ast.walk(row) if not is_docstring(row)]
    for part in inner:
        if isinstance(part, ast.stmt) and not isinstance(part, (ast.If, ast.Assign, ast.Pass)):
            yield part.lineno, "L6 row of __exit__"
        if isinstance(part, ast.Assign) and not isinstance(part.value, (ast.Name, ast.Attribute)):
            yield part.lineno, "L6 assignment in __exit__"
        if isinstance(part, ast.If) and ast.unparse(part.test) not in ("kind is None", "kind is not None"):
            yield part.lineno, "L6 test in __exit__"
        if isinstance(part, ast.Name) and part.id in ("value", "trace"):
            yield part.lineno, "L6 what __exit__ reads"


def expressions(tree):
    for node in ast.walk(tree):
        line = getattr(node, "lineno", 1)
        if isinstance(node, NO_NODES):
            yield line, f"L6 L7 {node.__class__.__name__}"
        if isinstance(node, ast.Constant) and isinstance(node.value, (float, complex)):
            yield line, "L7 float"
        if isinstance(node, (ast.Name, ast.Attribute)) and "float" in (getattr(node, "id", ""), getattr(node, "attr", "")):
            yield line, "L7 float"
        if isinstance(node, ast.BinOp) and isinstance(node.op, ast.Pow):
            yield line, "L27 power"
        if isinstance(node, ast.Compare):
            for operator, right in zip(node.ops, node.comparators):
                if isinstance(operator, (ast.Is, ast.IsNot)) and not (isinstance(right, ast.Constant) and right.value in (None, True, False)):
                    yield line, "L20 is"
        if isinstance(node, ast.Starred) and isinstance(node.above, ast.Call):
            yield line, "L7 star in a call"
        if isinstance(node, ast.FormattedValue) and (node.format_spec or node.conversion == 97):
            yield line, "L7 format"


def calls(tree):
    own = {node.name for node in ast.walk(tree) if isinstance(node, ast.FunctionDef)} | OWN_METHODS
    lazy = {"zip", "enumerate", "reversed", "map", "product", "combinations", "permutations"}
    for node in ast.walk(tree):
        if not isinstance(node, ast.Call):
            continue
        if isinstance(node.func, ast.Attribute):
            if node.func.attr not in METHODS | own:
                yield node.lineno, f"L25 method {node.func.attr}"
            if node.func.attr in METHODS and node.keywords:
                yield node.lineno, "L25 keyword"
        elif isinstance(node.func, ast.Name):
            name, keys = node.func.id, {key.arg for key in node.keywords}
            if name in BUILTINS and keys - {"sorted": {"key", "reverse"}, "min": {"key", "default"}, "max": {"key", "default"}}.get(name, set()):
                yield node.lineno, "L22 keyword of a builtin"
            if name in lazy and not is_iterated(node):
                yield node.lineno, f"L2 L23 {name} is not iterated at once"
            if name in LIBRARY["itertools"] and (node.keywords or name != "product" and not is_small(node.args)):
                yield node.lineno, f"L2 arguments of {name}"
        else:
            yield node.lineno, "L7 call of what is no name"


def is_iterated(node):
    """Whether a call stands where it is iterated at once."""
    if isinstance(node.above, (ast.For, ast.comprehension)):
        return node.above.iter is node
    called = node.above.func if isinstance(node.above, ast.Call) else None
    return isinstance(called, ast.Name) and called.id in ("list", "tuple", "sorted", "sum", "min", "max", "any", "all")


def is_small(arguments):
    """Whether a second argument is plainly an integer: a literal, or a name that goes over a range."""
    if len(arguments) == 1:
        return True
    size = arguments[1]
    if isinstance(size, ast.Constant):
        return isinstance(size.value, int)
    node = size
    while not isinstance(node, ast.FunctionDef):
        node = node.above
    loops = [loop for loop in ast.walk(node) if isinstance(loop, (ast.For, ast.comprehension))]
    over = [loop.iter for loop in loops if isinstance(loop.target, ast.Name) and loop.target.id == getattr(size, "id", "")]
    return bool(over) and all(isinstance(one, ast.Call) and getattr(one.func, "id", "") == "range" for one in over)


def errors(tree):
    own = imported(tree) | {node.name for node in tree.body if isinstance(node, ast.ClassDef)}
    for node in ast.walk(tree):
        if isinstance(node, ast.ExceptHandler):
            caught = node.type.elts if isinstance(node.type, ast.Tuple) else [node.type]
            for kind in caught:
                if not isinstance(kind, ast.Name) or kind.id not in own | {"KeyError", "ZeroDivisionError"}:
                    yield node.lineno, "L19 what is caught"
        if isinstance(node, ast.Raise) and node.exc is not None:
            made = node.exc.func if isinstance(node.exc, ast.Call) else None
            if not isinstance(made, ast.Name) or made.id not in own:
                yield node.lineno, "L19 what is raised"


def sets(tree):
    for node in ast.walk(tree):
        if isinstance(node, (ast.Set, ast.SetComp)):
            yield node.lineno, "L24 set"
        if isinstance(node, ast.Call) and isinstance(node.func, ast.Name) and node.func.id == "set":
            if not isinstance(node.above, ast.Assign) or node.args:
                yield node.lineno, "L24 set"
            else:
                yield from uses_of_set(node.above)


def uses_of_set(assignment):
    """What is not allowed of a set that is stored: all but add, in and not in."""
    name, scope = assignment.targets[0].id, assignment
    while not isinstance(scope, SCOPES):
        scope = scope.above
    for node in ast.walk(scope):
        if isinstance(node, ast.Name) and node.id == name and node is not assignment.targets[0]:
            added = isinstance(node.above, ast.Attribute) and node.above.attr in ("add", "discard")
            asked = isinstance(node.above, ast.Compare) and isinstance(node.above.ops[0], (ast.In, ast.NotIn))
            if not added and not (asked and node.above.comparators[0] is node):
                yield node.lineno, f"L24 set {name}"


OWN_METHODS = {"far", "changed", "without", "grown", "renamed", "table", "told", "told_more", "put", "take", "change",
    "close", "strip", "cover", "undo", "trial", "drop", "promise", "lift"}
