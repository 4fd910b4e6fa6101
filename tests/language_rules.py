"""Finds code of the package that stands outside the language rules, as far as a walk of its parts can see."""

import ast
import builtins
import re

PACKAGE = "glideways"
OWN_NAMES = set(
    "len range enumerate zip min max sum abs sorted reversed int str bool list tuple dict set frozenset isinstance "
    "ord repr any all divmod Exception ValueError TypeError KeyError IndexError LookupError ZeroDivisionError "
    "ArithmeticError OverflowError RuntimeError NotImplementedError AttributeError StopIteration".split()
)
BARRED_NAMES = set(
    "attrgetter breakpoint builtins compile copyright credits delattr dir eval exec exit gc getattr globals hasattr "
    "help id importlib license locals methodcaller os quit setattr super type vars sys __name__".split()
)
BARRED_EVERYWHERE = set("register mro elements open input version_info with_traceback add_note".split())
BARRED_ATTRIBUTES = BARRED_EVERYWHERE | {"format", "format_map"}
BARRED_WORDS = re.compile(
    r"\b(type|typing|typing_extensions|enum|Enum|IntEnum|StrEnum|Flag|IntFlag|Generic|Protocol|ABC|ABCMeta|"
    r"namedtuple|NamedTuple|TypedDict|TYPE_CHECKING|abstractmethod)\b|dataclass|overload|contextmanager"
)
METHODS = set(
    "append clear copy count endswith extend find get index insert isalnum isalpha isdigit islower isspace isupper "
    "items join keys ljust lower lstrip partition pop remove replace reverse rfind rjust rpartition rsplit rstrip "
    "setdefault split splitlines startswith strip update upper values zfill bit_length add discard".split()
)
PYTHONS_METHODS = {
    name for kind in (str, int, list, tuple, dict, set, bytes) for name in dir(kind) if not name.startswith("__")
}
SPECIAL_METHODS = {"__init__", "__eq__", "__repr__", "__str__", "__len__"}
SPECIAL = SPECIAL_METHODS | {"__all__", "__version__"}
VALUES_TOO = set("count index title find get join lower upper split strip copy add".split())
NO_VALUES = (PYTHONS_METHODS | {"args", "encode", "format"}) - VALUES_TOO
TOP = (ast.ImportFrom, ast.FunctionDef, ast.ClassDef, ast.Assign)
INNER = (
    ast.FunctionDef, ast.Assign, ast.AugAssign, ast.If, ast.While, ast.For, ast.Return, ast.Break, ast.Continue,
    ast.Pass, ast.Raise, ast.Try, ast.Expr,
)
EXPRESSIONS = (
    ast.Constant, ast.List, ast.Tuple, ast.Dict, ast.Set, ast.BinOp, ast.UnaryOp, ast.BoolOp, ast.Compare, ast.IfExp,
    ast.Call, ast.Attribute, ast.Subscript, ast.Slice, ast.Name, ast.ListComp, ast.JoinedStr, ast.FormattedValue,
    ast.Lambda,
)


def is_docstring(part):
    return isinstance(part, ast.Expr) and isinstance(part.value, ast.Constant) and isinstance(part.value.value, str)


def sign_faults(text):
    lines = text.split("\n")
    if len(lines) - 1 > 400:
        yield ("L10", 400, "a file of more than 400 lines")
    for number, line in enumerate(lines, start=1):
        if len(line) > 120:
            yield ("L10", number, "a line of more than 120 characters")
        if any(not " " <= sign <= "~" for sign in line):
            yield ("L14", number, "a sign that is none from the blank to ~")
        if BARRED_WORDS.search(line):
            yield ("L17", number, "a barred word")


def top_faults(tree):
    bound = []
    for part in tree.body:
        if isinstance(part, ast.ImportFrom):
            bound.extend((part, name.asname or name.name) for name in part.names)
        elif isinstance(part, (ast.FunctionDef, ast.ClassDef)):
            bound.append((part, part.name))
        elif isinstance(part, ast.Assign):
            bound.extend((part, target.id) for target in part.targets if isinstance(target, ast.Name))
        if not isinstance(part, TOP) and not is_docstring(part):
            yield ("L3", part.lineno, "no statement for a file's top")
    for place, (part, name) in enumerate(bound):
        if name in [other for _, other in bound[:place]]:
            yield ("L15", part.lineno, f"{name} is bound twice")


def is_plain(value, above):
    if isinstance(value, (ast.List, ast.Tuple)):
        return all(is_plain(one, above) for one in value.elts)
    if isinstance(value, ast.Dict):
        return all(one is not None and is_plain(one, above) for one in value.keys + value.values)
    if isinstance(value, ast.UnaryOp) and isinstance(value.op, ast.USub):
        return isinstance(value.operand, ast.Constant)
    return isinstance(value, ast.Constant) or (isinstance(value, ast.Name) and value.id in above)


def top_value_faults(tree):
    above = set()
    for part in tree.body:
        if isinstance(part, ast.FunctionDef):
            above.add(part.name)
        if isinstance(part, ast.Assign) and not is_plain(part.value, above):
            yield ("L3", part.lineno, "no plain value for a file's top")


def shadow_faults(tree):
    taken = {part.name for part in tree.body if isinstance(part, ast.ClassDef)}
    for part in tree.body:
        if isinstance(part, ast.ImportFrom):
            taken |= {name.asname or name.name for name in part.names}
    for part in ast.walk(tree):
        name = part.arg if isinstance(part, ast.arg) else None
        if isinstance(part, ast.Name) and isinstance(part.ctx, ast.Store):
            name = part.id
        if name in taken:
            yield ("L15", part.lineno, f"{name} is a class or an import of the file")


def import_faults(part):
    if isinstance(part, ast.Import):
        yield ("L16", part.lineno, "import without from")
    if isinstance(part, ast.ImportFrom):
        if part.level or not (part.module or "").startswith(PACKAGE + "."):
            yield ("L2", part.lineno, "an import from elsewhere")
        if any(name.name == "*" for name in part.names):
            yield ("L2", part.lineno, "import of *")


def function_faults(part):
    given = part.args
    if given.vararg or given.kwarg or given.kwonlyargs or given.posonlyargs:
        yield ("L4", part.lineno, "parameters that are not plain")
    if isinstance(part, ast.FunctionDef):
        if part.decorator_list:
            yield ("L4", part.lineno, "a decorator")
        if part.returns or any(one.annotation for one in given.args):
            yield ("L21", part.lineno, "an annotation")
        if part.end_lineno - part.lineno + 1 > 40:
            yield ("L10", part.lineno, "a function of more than 40 lines")


def class_faults(part):
    if part.decorator_list or part.keywords or len(part.bases) > 1:
        yield ("L5", part.lineno, "no plain class")
    for inner in part.body:
        if not isinstance(inner, (ast.FunctionDef, ast.Pass)) and not is_docstring(inner):
            yield ("L5", inner.lineno, "a value in a class body")


def methods_of(tree):
    classes = [part for part in ast.walk(tree) if isinstance(part, ast.ClassDef)]
    return [inner for one in classes for inner in one.body if isinstance(inner, ast.FunctionDef)]


def values_given(tree):
    given = [part for part in ast.walk(tree) if isinstance(part, ast.Attribute)]
    return [part for part in given if isinstance(part.ctx, ast.Store)]


def method_faults(tree):
    for part in methods_of(tree):
        if part.name.startswith("__") and part.name not in SPECIAL_METHODS:
            yield ("L5", part.lineno, f"the method {part.name}")
        if part.name in PYTHONS_METHODS - METHODS:
            yield ("L26", part.lineno, f"the method {part.name}")
        if part.name == "__init__" and any(isinstance(one, ast.Return) and one.value for one in ast.walk(part)):
            yield ("L28", part.lineno, "__init__ gives something back")
    for part in values_given(tree):
        if part.attr in NO_VALUES:
            yield ("L26", part.lineno, f"the value {part.attr}")


def both_method_and_value(trees):
    methods = {part.name for tree in trees for part in methods_of(tree)}
    return methods & {part.attr for tree in trees for part in values_given(tree)}


def statement_faults(part):
    if not isinstance(part, INNER + (ast.ImportFrom, ast.Import, ast.ClassDef)):
        yield ("L6", part.lineno, "a barred statement")
    if isinstance(part, (ast.For, ast.While)) and part.orelse:
        yield ("L6", part.lineno, "else behind a loop")
    if isinstance(part, ast.Try) and (part.finalbody or any(one.type is None for one in part.handlers)):
        yield ("L6", part.lineno, "finally, or except without a class")
    if isinstance(part, ast.Assign) and (len(part.targets) > 1 or isinstance(part.targets[0], (ast.Tuple, ast.List))):
        yield ("L6", part.lineno, "more than one target")
    if isinstance(part, ast.Expr) and not isinstance(part.value, ast.Call) and not is_docstring(part):
        yield ("L6", part.lineno, "a value by itself")


def expression_faults(part):
    if not isinstance(part, EXPRESSIONS):
        yield ("L7", part.lineno, "a barred expression")
    if isinstance(part, ast.Constant) and isinstance(part.value, (float, complex, bytes)):
        yield ("L7", part.lineno, "a barred value")
    if isinstance(part, ast.Constant) and isinstance(part.value, str) and "%" in part.value:
        yield ("L27", part.lineno, "the sign of per cent in a text")
    if isinstance(part, ast.ListComp) and (len(part.generators) > 1 or len(part.generators[0].ifs) > 1):
        yield ("L7", part.lineno, "a comprehension of more than one for or if")
    if isinstance(part, ast.Compare) and any(isinstance(one, (ast.Is, ast.IsNot)) for one in part.ops):
        if not any(isinstance(one, ast.Constant) and one.value in (None, True, False) for one in part.comparators):
            yield ("L20", part.lineno, "is beside something else than None, True, False")
    if isinstance(part, ast.BinOp):
        if isinstance(part.op, (ast.Div, ast.MatMult)):
            yield ("L7", part.lineno, "a barred operator")
        if isinstance(part.op, ast.Pow) and not isinstance(part.right, ast.Constant):
            yield ("L27", part.lineno, "an exponent that is not written")


def name_faults(part, called, own_methods):
    if isinstance(part, ast.Attribute):
        name = part.attr
        if name in BARRED_ATTRIBUTES:
            yield ("L17", part.lineno, f"the attribute {name}")
        if part in called and name in PYTHONS_METHODS - METHODS - own_methods:
            yield ("L25", part.lineno, f"the method {name}")
    else:
        name = part.arg if isinstance(part, ast.arg) else getattr(part, "id", None) or part.name
        pythons = hasattr(builtins, name)
        read = isinstance(part, ast.Name) and isinstance(part.ctx, ast.Load)
        method = isinstance(part, ast.FunctionDef) and name in own_methods
        if name in BARRED_NAMES | BARRED_EVERYWHERE or (pythons and read and name not in OWN_NAMES):
            yield ("L8", part.lineno, f"the name {name}")
        if pythons and not read and not method:
            yield ("L15", part.lineno, f"{name} is Python's own name")
    if name.startswith("_") and name not in SPECIAL:
        yield ("L12", part.lineno, f"the name {name}")


def tree_faults(tree):
    called = [part.func for part in ast.walk(tree) if isinstance(part, ast.Call)]
    own_methods = {part.name for part in methods_of(tree)}
    yield from top_faults(tree)
    yield from method_faults(tree)
    yield from top_value_faults(tree)
    yield from shadow_faults(tree)
    for part in ast.walk(tree):
        yield from import_faults(part)
        if isinstance(part, (ast.FunctionDef, ast.Lambda)):
            yield from function_faults(part)
        if isinstance(part, ast.ClassDef):
            yield from class_faults(part)
        if isinstance(part, ast.stmt):
            yield from statement_faults(part)
        if isinstance(part, ast.expr):
            yield from expression_faults(part)
        if isinstance(part, (ast.Name, ast.arg, ast.FunctionDef, ast.ClassDef, ast.Attribute)):
            yield from name_faults(part, called, own_methods)


def faults(text):
    return list(sign_faults(text)) + list(tree_faults(ast.parse(text)))
