"""Checks what is easy to check of the rules L1 to L28 for one file of the package."""

import ast
import builtins
import io
import re
import tokenize

PACKAGE = "veiledgates"

# An interactive Python keeps its last value under the name of one underscore.
PYTHON_NAMES = set(dir(builtins)) - {"_"}

BUILTINS = set("""
    len range enumerate zip min max sum abs sorted reversed int str bool bytes list tuple dict set frozenset isinstance
    ord repr any all divmod pow map iter next getattr hasattr setattr super property staticmethod classmethod
    Exception ValueError TypeError KeyError IndexError LookupError ZeroDivisionError ArithmeticError OverflowError
    RuntimeError NotImplementedError AttributeError StopIteration NotImplemented
""".split())
KEYWORDS = {"sorted": {"key", "reverse"}, "min": {"key", "default"}, "max": {"key", "default"}, "sum": {"start"},
            "enumerate": {"start"}, "zip": {"strict"}}
LIBRARY = {
    "heapq": {"heappush", "heappop", "heapify", "heapreplace", "heappushpop"},
    "math": {"gcd", "lcm", "isqrt", "comb", "perm", "factorial"},
    "itertools": {"product", "combinations", "permutations", "chain", "accumulate", "pairwise", "islice",
                  "zip_longest"},
    "collections": {"defaultdict"},
}
METHODS = set("""
    append clear copy count endswith extend find get index insert isalnum isalpha isdigit islower isspace isupper items
    join keys ljust lower lstrip partition pop remove replace reverse rfind rjust rpartition rsplit rstrip setdefault
    split splitlines startswith strip update upper values zfill bit_length title capitalize swapcase casefold center
    expandtabs removeprefix removesuffix rindex isascii isdecimal isnumeric istitle isidentifier isprintable translate
    maketrans sort add discard encode decode hex from_bytes format
""".split())
BUILTIN_METHODS = {name for kind in (str, int, list, dict, set, bytes, tuple) for name in dir(kind)
                   if not name.startswith("_")}
NO_OWN_METHODS = BUILTIN_METHODS - set("""
    append clear copy count endswith extend find get index insert isalnum isalpha isdigit islower isspace isupper items
    join keys ljust lower lstrip partition pop remove replace reverse rfind rjust rpartition rsplit rstrip setdefault
    split splitlines startswith strip update upper values zfill bit_length add discard
""".split())
NO_OWN_ATTRIBUTES = BUILTIN_METHODS - set("count index title find get join lower upper split strip copy add".split())
OPERATORS = set("""
    lt le gt ge ne add sub mul floordiv mod pow and or xor lshift rshift radd rsub rmul rfloordiv rmod rand ror rxor
    rlshift rrshift iadd isub imul ifloordiv imod ipow iand ior ixor ilshift irshift neg pos invert abs bool contains
    getitem setitem
""".split())
PLAIN_DUNDERS = set("init eq repr str len enter exit call iter".split())
NOWHERE = set("register mro elements open input law version_info with_traceback add_note format_map".split())
NO_NAMES = set("""
    attrgetter breakpoint builtins compile copyright credits delattr dir eval exec exit gc globals help id importlib
    license locals methodcaller os quit type vars sys
""".split())
NO_WORDS = set("""
    typing typing_extensions enum Enum IntEnum StrEnum Flag IntFlag Generic Protocol ABC ABCMeta namedtuple NamedTuple
    TypedDict TYPE_CHECKING abstractmethod
""".split())
BAD_NODES = (ast.Global, ast.AsyncFunctionDef, ast.AsyncFor, ast.AsyncWith, ast.Await, ast.Import, ast.Div,
             ast.MatMult, ast.GeneratorExp, ast.TryStar)
ITERATING = {"any", "all", "min", "max", "sum", "sorted"}


def docstrings(tree):
    """The positions of all docstrings of a file."""
    found = set()
    for node in ast.walk(tree):
        if isinstance(node, (ast.Module, ast.ClassDef, ast.FunctionDef)) and node.body:
            first = node.body[0]
            if isinstance(first, ast.Expr) and isinstance(first.value, ast.Constant):
                found.add((first.value.lineno, first.value.col_offset))
    return found


def text_faults(source, tree):
    lines = source.split("\n")
    if len(lines) - 1 > 399:
        yield "L10 file", 0
    for at, line in enumerate(lines, 1):
        if len(line) > 120:
            yield "L10 line", at
        if any(not " " <= mark <= "~" for mark in line):
            yield "L14 character", at
        if re.search(r"\b_wall\b|\b_WallAttr\b", line):
            yield "L12 word", at
    known = docstrings(tree)
    for token in tokenize.generate_tokens(io.StringIO(source).readline):
        if token.type == tokenize.COMMENT or token.start in known:
            continue
        words = set(re.findall(r"\w+", token.string))
        if words & NO_WORDS or re.search("dataclass|overload|contextmanager", token.string):
            yield "L17 word", token.start[0]
        if token.type == tokenize.NAME and token.string == "type":
            yield "L17 word", token.start[0]
        if token.type == tokenize.STRING and re.search(r"\\[^nt\\'\"\n]", token.string):
            yield "L27 escape", token.start[0]


def string_faults(tree):
    for node in ast.walk(tree):
        if not isinstance(node, ast.Constant):
            continue
        if isinstance(node.value, (float, complex)) or node.value is ...:
            yield "L7 value", node.lineno
        if isinstance(node.value, str):
            text = node.value
            if "%" in text or text.endswith("._") or text.endswith(".__") or re.fullmatch("__.*__", text):
                yield "L27 string", node.lineno


def module_faults(tree):
    for node in tree.body:
        if isinstance(node, (ast.ImportFrom, ast.FunctionDef, ast.ClassDef)):
            continue
        if isinstance(node, ast.Expr) and isinstance(node.value, ast.Constant) and node is tree.body[0]:
            continue
        plain = isinstance(node, ast.Assign) and len(node.targets) == 1 and isinstance(node.targets[0], ast.Name)
        if not plain or any(isinstance(part, (ast.Call, ast.Lambda, ast.ListComp)) for part in ast.walk(node)):
            yield "L3 module level", node.lineno
    seen = [name for name, _ in bound_at_top(tree)]
    for name, line in bound_at_top(tree):
        if seen.count(name) > 1:
            yield "L15 bound twice", line


def bound_at_top(tree):
    found = []
    for node in tree.body:
        if isinstance(node, (ast.FunctionDef, ast.ClassDef)):
            found.append((node.name, node.lineno))
        elif isinstance(node, ast.ImportFrom):
            found.extend((item.asname or item.name, node.lineno) for item in node.names)
        elif isinstance(node, ast.Assign):
            found.extend((target.id, node.lineno) for target in node.targets if isinstance(target, ast.Name))
    return found


def import_faults(tree):
    for node in ast.walk(tree):
        if not isinstance(node, ast.ImportFrom):
            continue
        names = {item.name for item in node.names}
        inner = node.level == 0 and node.module.startswith(PACKAGE + ".") and "*" not in names
        outer = node.level == 0 and names <= LIBRARY.get(node.module, set())
        if not inner and not outer or any(item.asname for item in node.names) or node not in tree.body:
            yield "L2 import", node.lineno


def node_faults(tree):
    for node in ast.walk(tree):
        if isinstance(node, BAD_NODES):
            yield "L6/L7 " + node.__class__.__name__, getattr(node, "lineno", 0)
        if isinstance(node, ast.BinOp) and isinstance(node.op, ast.Pow):
            if not isinstance(node.right, ast.Constant) or not 0 <= node.right.value <= 64:
                yield "L27 exponent", node.lineno
        if isinstance(node, ast.Compare) and any(isinstance(op, (ast.Is, ast.IsNot)) for op in node.ops):
            sides = [node.left] + node.comparators
            if not any(isinstance(side, ast.Constant) and side.value in (None, True, False) or
                       isinstance(side, ast.Name) and side.id == "self" for side in sides):
                yield "L20 is", node.lineno
        if isinstance(node, ast.ExceptHandler):
            caught = node.type.elts if isinstance(node.type, ast.Tuple) else [node.type]
            for item in caught:
                if not isinstance(item, ast.Name) or item.id in {"Exception", "TypeError", "ArithmeticError",
                                                                 "OverflowError", "RuntimeError", "AttributeError",
                                                                 "NotImplementedError", "BaseException"}:
                    yield "L19 handler", node.lineno
        if isinstance(node, ast.Raise) and node.exc is not None and not (
                isinstance(node.exc, ast.Call) and isinstance(node.exc.func, ast.Name)):
            yield "L19 raise", node.lineno
        if isinstance(node, ast.AnnAssign) and node.value is None:
            yield "L21 annotation", node.lineno


def is_plainly_ordered(node):
    """Whether what is sorted is plainly numbers or strings, as a class with an order asks for."""
    if isinstance(node, ast.ListComp):
        items = [node.elt]
    elif isinstance(node, (ast.List, ast.Tuple)):
        items = node.elts
    else:
        return False
    return all(isinstance(item, ast.Constant) or isinstance(item, ast.Call) and isinstance(item.func, ast.Name)
               and item.func.id in ("int", "len", "ord", "str", "repr") for item in items)


def call_faults(tree):
    for node in ast.walk(tree):
        if not isinstance(node, ast.Call):
            continue
        if isinstance(node.func, ast.Name) and node.func.id in PYTHON_NAMES:
            if {word.arg for word in node.keywords} - KEYWORDS.get(node.func.id, set()):
                yield "L22 keyword", node.lineno
            if node.func.id in ("sorted", "min", "max") and not is_plainly_ordered(node.args[0]):
                yield "L5 order", node.lineno
            if node.func.id == "pow" and len(node.args) != 3:
                yield "L27 pow", node.lineno
        for item in node.args:
            if isinstance(item, ast.Starred) and not isinstance(item.value, (ast.Name, ast.Attribute, ast.List,
                                                                             ast.Tuple, ast.Constant)):
                yield "L7 star", node.lineno
        if isinstance(node.func, ast.Attribute):
            name = node.func.attr
            if name in BUILTIN_METHODS and name not in METHODS:
                yield "L25 method", node.lineno
            if name in BUILTIN_METHODS and node.keywords and name != "sort":
                yield "L25 keyword", node.lineno


def bound_names(tree):
    """All names that a file binds by parameters, assignments, loops and definitions."""
    for node in ast.walk(tree):
        if isinstance(node, ast.arg):
            yield node.arg, node.lineno
        elif isinstance(node, ast.Name) and not isinstance(node.ctx, ast.Load):
            yield node.id, node.lineno
        elif isinstance(node, ast.ExceptHandler) and node.name:
            yield node.name, node.lineno
    for name, line in bound_at_top(tree):
        yield name, line


def name_faults(tree):
    top_classes = {node.name for node in tree.body if isinstance(node, ast.ClassDef)}
    imported = {item.name for node in tree.body if isinstance(node, ast.ImportFrom) for item in node.names}
    for name, line in bound_names(tree):
        if name in PYTHON_NAMES or name in NO_NAMES:
            yield "L15/L17 name " + name, line
        if name in NOWHERE or not re.fullmatch("_|_?[A-Za-z][A-Za-z0-9_]*", name):
            yield "L12/L17 name " + name, line
    for node in ast.walk(tree):
        local = node.arg if isinstance(node, ast.arg) else None
        if isinstance(node, ast.Name) and not isinstance(node.ctx, ast.Load) and node.col_offset > 0:
            local = node.id
        if local in top_classes | imported:
            yield "L15 local " + local, node.lineno
        if isinstance(node, ast.Name) and isinstance(node.ctx, ast.Load):
            if node.id in PYTHON_NAMES and node.id not in BUILTINS or node.id == "_":
                yield "L8/L12 name " + node.id, node.lineno
        if isinstance(node, ast.Attribute):
            if node.attr in NOWHERE or node.attr.startswith("__") and node.attr not in ("__class__", "__name__",
                                                                                         "__init__"):
                yield "L8/L17 attribute " + node.attr, node.lineno
            if isinstance(node.ctx, ast.Store) and node.attr in NO_OWN_ATTRIBUTES:
                yield "L26 attribute " + node.attr, node.lineno


def function_faults(tree):
    methods = {id(item) for node in ast.walk(tree) if isinstance(node, ast.ClassDef) for item in node.body}
    for node in ast.walk(tree):
        if not isinstance(node, ast.FunctionDef):
            continue
        if node.end_lineno - node.lineno + 1 > 40:
            yield "L10 function", node.lineno
        inner = id(node) in methods
        names = {item.id for item in node.decorator_list if isinstance(item, ast.Name)}
        setters = [item for item in node.decorator_list if isinstance(item, ast.Attribute) and item.attr == "setter"]
        if len(names) + len(setters) != len(node.decorator_list) or len(node.decorator_list) > 1 or (
                names and (not inner or not names <= {"property", "staticmethod", "classmethod"})):
            yield "L4 decorator", node.lineno
        if node.name.startswith("__"):
            if not inner or node.name.strip("_") not in OPERATORS | PLAIN_DUNDERS:
                yield "L5 method " + node.name, node.lineno
        elif inner and node.name in NO_OWN_METHODS | NOWHERE | BUILTINS:
            yield "L26 method " + node.name, node.lineno
        if node.name in ("__eq__", "__repr__", "__str__", "__len__"):
            if any(isinstance(part, (ast.Assign, ast.AugAssign, ast.Delete)) for part in ast.walk(node)):
                yield "L28 assignment", node.lineno
            if not isinstance(node.body[-1], ast.Return):
                yield "L28 return", node.lineno
        if node.name == "__init__" and any(isinstance(part, ast.Return) and part.value for part in ast.walk(node)):
            yield "L28 return", node.lineno
        for default in node.args.defaults + [item for item in node.args.kw_defaults if item]:
            if any(isinstance(part, (ast.List, ast.Dict, ast.Set, ast.Call)) for part in ast.walk(default)):
                yield "L4 default", node.lineno


def faults(source):
    """The list of the pairs (rule, line) that a file breaks."""
    tree = ast.parse(source)
    found = list(text_faults(source, tree))
    for check in (string_faults, module_faults, import_faults, node_faults, call_faults, name_faults, function_faults):
        found.extend(check(tree))
    return sorted(set(found), key=lambda item: (item[1], item[0]))
