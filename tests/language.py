"""Looks at a file's text for what LANGUAGE.md rules out, as far as that can be seen in its tree.

It sees a part of the rules (a finding names its rule); the rest is still to be kept by reading.
"""

import ast
import builtins
import re

OWN_NAMES = set(
    "len range enumerate zip min max sum abs sorted reversed int str bool list tuple dict set frozenset isinstance ord "
    "repr any all divmod Exception ValueError TypeError KeyError IndexError LookupError ZeroDivisionError "
    "ArithmeticError OverflowError RuntimeError NotImplementedError AttributeError StopIteration".split())
METHODS = set(
    "append clear copy count endswith extend find get index insert isalnum isalpha isdigit islower isspace isupper "
    "items join keys ljust lower lstrip partition pop remove replace reverse rfind rjust rpartition rsplit rstrip "
    "setdefault split splitlines startswith strip update upper values zfill bit_length".split())
DUNDERS = {"__init__", "__eq__", "__repr__", "__str__", "__len__"}
NOWHERE = {"register", "mro", "elements", "open", "input", "version_info", "with_traceback", "add_note",
           "format", "format_map"}
WORDS = re.compile(
    r"\b(type|typing|typing_extensions|enum|Enum|IntEnum|StrEnum|Flag|IntFlag|Generic|Protocol|ABC|ABCMeta|namedtuple|"
    r"NamedTuple|TypedDict|TYPE_CHECKING|abstractmethod)\b|dataclass|overload|contextmanager")
NODES = set(
    "Module FunctionDef ClassDef arguments arg Return Assign AugAssign For While If Raise Try ExceptHandler ImportFrom "
    "alias Expr Pass Break Continue BoolOp BinOp UnaryOp Lambda IfExp Dict Set ListComp comprehension Compare Call "
    "keyword JoinedStr FormattedValue Constant Attribute Subscript Name List Tuple Slice Load Store And Or Add Sub "
    "Mult Mod Pow LShift RShift BitOr BitXor BitAnd FloorDiv Invert Not UAdd USub Eq NotEq Lt LtE Gt GtE Is IsNot In "
    "NotIn".split())
BUILT_IN = set(dir(builtins))
OWN_KINDS = (str, int, list, dict, set, bytes, tuple)
FREE_VALUES = set("count index title find get join lower upper split strip copy add".split())
WALKED = {"zip", "enumerate", "reversed", "range"}
WALKERS = set("list tuple dict sorted sum any all enumerate zip min max".split())
KEYWORDS = {"sorted": ("key", "reverse"), "min": ("key", "default"), "max": ("key", "default"), "sum": ("start",),
            "enumerate": ("start",), "zip": ("strict",)}


def line_faults(text):
    lines = text.split("\n")
    if len(lines) - 1 > 400:
        yield "L10 file of more than 400 lines"
    for number, line in enumerate(lines, 1):
        if len(line) > 120:
            yield f"L10 line {number} of more than 120 signs"
        if re.search(r"[^ -~]", line):
            yield f"L14 line {number} has a sign that is none from the blank to ~"
        if WORDS.search(line):
            yield f"L17 line {number} has a word that stands nowhere"


def bound_names(tree):
    for node in ast.walk(tree):
        if isinstance(node, ast.Name) and isinstance(node.ctx, ast.Store):
            yield node.id
        elif isinstance(node, ast.arg):
            yield node.arg
        elif isinstance(node, (ast.FunctionDef, ast.ClassDef)):
            yield node.name
        elif isinstance(node, ast.alias):
            yield node.name
        elif isinstance(node, ast.ExceptHandler) and node.name:
            yield node.name


def own_methods(tree):
    return {each.name for node in ast.walk(tree) if isinstance(node, ast.ClassDef) for each in node.body
            if isinstance(each, ast.FunctionDef)}


def name_faults(tree):
    bound = set(bound_names(tree))
    methods = own_methods(tree)
    for name in sorted(bound - DUNDERS):
        if not re.fullmatch(r"[A-Za-z][A-Za-z0-9_]*", name):
            yield f"L12 name {name}"
        if name in BUILT_IN and name not in methods:
            yield f"L15 {name} is a name of Python's own"
        if name in NOWHERE:
            yield f"L17 name {name}"
    for node in ast.walk(tree):
        if isinstance(node, ast.Name) and isinstance(node.ctx, ast.Load):
            if node.id not in bound and node.id not in OWN_NAMES:
                yield f"L8 line {node.lineno} name {node.id}"
        if isinstance(node, ast.Attribute) and (node.attr in NOWHERE or node.attr.startswith("_")):
            if node.attr != "__init__":
                yield f"L17 line {node.lineno} attribute {node.attr}"


def top_faults(tree, package):
    names = []
    for place, node in enumerate(tree.body):
        if isinstance(node, ast.ImportFrom):
            if node.level or not (node.module or "").startswith(package + "."):
                yield f"L2 line {node.lineno} import"
            names.extend(each.name for each in node.names)
        elif isinstance(node, (ast.FunctionDef, ast.ClassDef)):
            names.append(node.name)
        elif isinstance(node, ast.Assign) and isinstance(node.targets[0], ast.Name):
            names.append(node.targets[0].id)
            if any(isinstance(each, (ast.Call, ast.ListComp, ast.Lambda)) for each in ast.walk(node.value)):
                yield f"L3 line {node.lineno} no plain value"
        elif place != 0 or not isinstance(node, ast.Expr) or not isinstance(node.value, ast.Constant):
            yield f"L3 line {node.lineno} at the top"
    for name in sorted(set(names)):
        if names.count(name) > 1:
            yield f"L15 {name} bound twice"
    inner = [node for top in tree.body for node in ast.walk(top) if node is not top]
    for node in inner:
        if isinstance(node, (ast.ImportFrom, ast.ClassDef)):
            yield f"L2, L15 line {node.lineno} not at the top"


def is_plain_constant(node):
    return isinstance(node, ast.Constant) and (node.value is None or isinstance(node.value, bool))


def node_faults(node):
    if type(node).__name__ not in NODES:
        yield f"L6, L7 {type(node).__name__}"
    if isinstance(node, ast.Constant) and not (node.value is None or isinstance(node.value, (bool, int, str))):
        yield "L7 value"
    if isinstance(node, ast.Constant) and isinstance(node.value, str) and "%" in node.value:
        yield "L27 percent sign in a text"
    if isinstance(node, ast.FormattedValue) and (not isinstance(node.value, ast.Name) or node.format_spec):
        yield "L7 f-string"
    if isinstance(node, ast.FunctionDef):
        yield from def_faults(node)
    if isinstance(node, ast.ClassDef) and (len(node.bases) > 1 or node.decorator_list or node.keywords):
        yield "L5 class"
    if isinstance(node, ast.Assign) and len(node.targets) != 1:
        yield "L6 targets"
    if isinstance(node, (ast.For, ast.While)) and node.orelse:
        yield "L6 else behind a loop"
    if isinstance(node, ast.Try) and node.finalbody:
        yield "L6 finally"
    if isinstance(node, ast.ListComp) and (len(node.generators) != 1 or len(node.generators[0].ifs) > 1):
        yield "L7 comprehension"
    if isinstance(node, ast.Compare):
        for operator, side in zip(node.ops, node.comparators):
            if isinstance(operator, (ast.Is, ast.IsNot)) and not is_plain_constant(side):
                yield "L20 is"
    if isinstance(node, ast.BinOp) and isinstance(node.op, ast.Pow) and not isinstance(node.right, ast.Constant):
        yield "L27 exponent"
    if isinstance(node, ast.ExceptHandler):
        if node.type is None or getattr(node.type, "id", None) in ("Exception", "TypeError"):
            yield "L19 except"


def def_faults(node):
    if node.end_lineno - node.lineno + 1 > 40:
        yield "L10 function of more than 40 lines"
    given = node.args
    if node.decorator_list or given.vararg or given.kwarg or given.kwonlyargs or given.posonlyargs:
        yield "L4 function"
    if node.returns or any(each.annotation for each in given.args):
        yield "L21 annotation"


def own_values(tree):
    return {node.attr for node in ast.walk(tree) if isinstance(node, ast.Attribute) and isinstance(node.ctx, ast.Store)}


def class_faults(methods, values):
    """Of all the package's methods and values."""
    for name in sorted(methods & values):
        yield f"L18 {name} is a method and a value"
    for name in sorted(values - FREE_VALUES):
        if any(hasattr(kind, name) for kind in OWN_KINDS):
            yield f"L26 value {name}"
    for name in sorted(methods - METHODS - DUNDERS - {"add", "discard"}):
        if any(hasattr(kind, name) for kind in OWN_KINDS):
            yield f"L26 method {name}"


def local_faults(tree):
    at_top = {each.name for node in tree.body if isinstance(node, ast.ImportFrom) for each in node.names}
    at_top |= {node.name for node in tree.body if isinstance(node, ast.ClassDef)}
    for node in ast.walk(tree):
        name = node.arg if isinstance(node, ast.arg) else None
        if isinstance(node, ast.Name) and isinstance(node.ctx, ast.Store):
            name = node.id
        if name in at_top:
            yield f"L15 line {node.lineno} {name} is a class or an import of the file"


def called_name(node):
    return node.func.id if isinstance(node, ast.Call) and isinstance(node.func, ast.Name) else None


def is_walked(node, above):
    if isinstance(above, (ast.For, ast.comprehension)):
        return above.iter is node
    if isinstance(above, ast.Call) and above.args and above.args[0] is node:
        return called_name(above) in WALKERS or isinstance(above.func, ast.Attribute) and above.func.attr == "join"
    return called_name(above) == "zip"


def place_faults(tree):
    """What hangs on where a call stands."""
    for above in ast.walk(tree):
        for node in ast.iter_child_nodes(above):
            name = called_name(node)
            method = node.func.attr if isinstance(node, ast.Call) and isinstance(node.func, ast.Attribute) else None
            if (name in WALKED or method in ("items", "keys", "values")) and not is_walked(node, above):
                yield f"L23 line {node.lineno} {name or method} is not walked at once"
            if name in ("set", "frozenset") and called_name(above) not in ("sorted", "len"):
                if not isinstance(above, (ast.Compare, ast.BinOp)):
                    yield f"L24 line {node.lineno} set"
            if name in BUILT_IN or method in METHODS:
                for each in node.keywords:
                    if each.arg not in KEYWORDS.get(name, ()):
                        yield f"L22 line {node.lineno} keyword {each.arg}"


def called_methods(tree):
    for node in ast.walk(tree):
        if isinstance(node, ast.Call) and isinstance(node.func, ast.Attribute):
            yield node.func.attr


def faults(text, package, known_methods=()):
    tree = ast.parse(text)
    found = list(line_faults(text)) + list(name_faults(tree)) + list(top_faults(tree, package))
    found.extend(local_faults(tree))
    found.extend(place_faults(tree))
    found.extend(class_faults(own_methods(tree), own_values(tree)))
    for node in ast.walk(tree):
        found.extend(f"line {getattr(node, 'lineno', 0)}: {each}" for each in node_faults(node))
    for name in sorted(set(called_methods(tree)) - METHODS - own_methods(tree) - set(known_methods)):
        found.append(f"L25 method {name}")
    return found


def drawn_from(text):
    return [node.module for node in ast.parse(text).body if isinstance(node, ast.ImportFrom)]


def defined(text):
    names = []
    for node in ast.parse(text).body:
        if isinstance(node, (ast.FunctionDef, ast.ClassDef)):
            names.append(node.name)
        elif isinstance(node, ast.Assign):
            names.append(node.targets[0].id)
    return names
