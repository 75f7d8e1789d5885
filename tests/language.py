"""Looks at the files of the package for what LANGUAGE.md rules out, as far as a look at its form can tell."""

import ast
import builtins
import re

PACKAGE = "sieve"

ALLOWED_NODES = tuple(getattr(ast, name) for name in (
    "Module Expr Assign AugAssign AnnAssign If While For Return Break Continue Pass Raise Try ExceptHandler "
    "FunctionDef ClassDef ImportFrom Import alias arguments arg Lambda "
    "Constant List Tuple Dict Set BinOp UnaryOp BoolOp Compare IfExp Call keyword Attribute Subscript Slice Name "
    "ListComp comprehension JoinedStr FormattedValue expr_context operator unaryop boolop cmpop"
).split())
REFUSED_NODES = (ast.Div, ast.MatMult)

OWN_NAMES = (
    "len range enumerate zip min max sum abs sorted reversed int str bool list tuple dict set frozenset isinstance "
    "ord repr any all divmod Exception ValueError TypeError KeyError IndexError LookupError ZeroDivisionError "
    "ArithmeticError OverflowError RuntimeError NotImplementedError AttributeError StopIteration"
).split()
OWN_METHODS = (
    "append clear copy count endswith extend find get index insert isalnum isalpha isdigit islower isspace isupper "
    "items join keys ljust lower lstrip partition pop remove replace reverse rfind rjust rpartition rsplit rstrip "
    "setdefault split splitlines startswith strip update upper values zfill bit_length"
).split()
DOUBLE_METHODS = "__init__ __eq__ __repr__ __str__ __len__".split()
REFUSED_ATTRIBUTES = (
    "format format_map mro register elements open input version_info with_traceback add_note"
).split()
REFUSED_WORDS = (
    "type typing typing_extensions enum Enum IntEnum StrEnum Flag IntFlag Generic Protocol ABC ABCMeta namedtuple "
    "NamedTuple TypedDict TYPE_CHECKING abstractmethod"
).split()
REFUSED_WITHIN_WORDS = "dataclass overload contextmanager".split()
TAKEN_ERRORS = "KeyError ZeroDivisionError StopIteration".split()
WALKED = "zip enumerate reversed range items keys values".split()
WALKERS = "list tuple dict sorted sum any all enumerate zip min max join".split()
READERS = "len list tuple dict sorted sum any all enumerate zip min max".split()
READING_METHODS = "get items keys values index count".split()
PYTHON_ATTRIBUTES = {name for kind in (str, int, list, dict, set, tuple, bytes) for name in dir(kind)}
VALUE_NAMES = "count index title find get join lower upper split strip copy add".split()


def text_faults(text):
    """L10, L14 and L17, of a file's text as it stands."""
    rows = text.split("\n")
    faults = [f"L10 row {number}" for number, row in enumerate(rows, start=1) if len(row) > 120]
    faults += ["L10 too many rows"] if len(rows) > 401 else []
    faults += [f"L14 sign {sign!r}" for sign in text if not (" " <= sign <= "~" or sign == "\n")]
    words = re.findall(r"\w+", text)
    faults += [f"L17 {word}" for word in words if word in REFUSED_WORDS]
    faults += [f"L17 {word}" for word in words for part in REFUSED_WITHIN_WORDS if part in word]
    return faults


def import_faults(node):
    module = getattr(node, "module", None) or ""
    own = isinstance(node, ast.ImportFrom) and node.level == 0 and module.startswith(PACKAGE + ".")
    if own and all(alias.name != "*" for alias in node.names):
        return []
    return [f"L2 row {node.lineno}"]


def is_plain_value(node):
    if isinstance(node, (ast.List, ast.Tuple)):
        return all(is_plain_value(part) for part in node.elts)
    if isinstance(node, ast.Dict):
        return all(is_plain_value(part) for part in node.keys + node.values)
    return isinstance(node, (ast.Constant, ast.Name))


def top_faults(tree):
    """L3 and L15, of what stands at a file's top."""
    faults = []
    bound = []
    for node in tree.body:
        if isinstance(node, (ast.FunctionDef, ast.ClassDef)):
            bound.append(node.name)
        elif isinstance(node, ast.Assign) and is_plain_value(node.value):
            bound += [target.id for target in node.targets]
        elif isinstance(node, (ast.Import, ast.ImportFrom)):
            bound += [alias.asname or alias.name for alias in node.names]
        elif not (isinstance(node, ast.Expr) and isinstance(node.value, ast.Constant)):
            faults.append(f"L3 row {node.lineno}")
    return faults + [f"L15 {name} twice" for name in sorted(set(bound)) if bound.count(name) > 1]


def function_faults(node):
    """L4, L10, L12 and L15, of a def."""
    given = node.args
    faults = []
    if given.vararg or given.kwarg or given.kwonlyargs or node.decorator_list:
        faults.append(f"L4 row {node.lineno}")
    if node.end_lineno - node.lineno >= 40:
        faults.append(f"L10 {node.name}")
    faults += [f"L15 {arg.arg}" for arg in given.args if hasattr(builtins, arg.arg)]
    faults += [f"L12 {arg.arg}" for arg in given.args if arg.arg.startswith("_")]
    if node.name.startswith("_") and node.name not in DOUBLE_METHODS:
        faults.append(f"L12 {node.name}")
    return faults


def class_faults(node):
    """L5, of a class."""
    bare = [part for part in node.body if not isinstance(part, (ast.FunctionDef, ast.Pass))]
    docs = [part for part in bare if isinstance(part, ast.Expr) and isinstance(part.value, ast.Constant)]
    plain = len(node.bases) <= 1 and not node.decorator_list and not node.keywords and len(bare) == len(docs)
    return [] if plain else [f"L5 {node.name}"]


def is_power_of_two(node):
    """L27: a power of two that has no written exponent."""
    power = isinstance(node, ast.BinOp) and isinstance(node.op, ast.Pow)
    return power and isinstance(node.left, ast.Constant) and not isinstance(node.right, ast.Constant)


def compare_faults(node):
    """L20: whether `is` stands beside None, True or False."""
    faults = []
    for sign, right in zip(node.ops, node.comparators):
        if isinstance(sign, (ast.Is, ast.IsNot)):
            sides = [side.value for side in (node.left, right) if isinstance(side, ast.Constant)]
            if not [side for side in sides if side in (None, True, False)]:
                faults.append(f"L20 row {node.lineno}")
    return faults


def name_faults(node):
    """L8, L12 and L15, of a name where it is read or bound."""
    own = hasattr(builtins, node.id)
    if own and isinstance(node.ctx, ast.Store):
        return [f"L15 {node.id}"]
    if own and node.id not in OWN_NAMES:
        return [f"L8 {node.id}"]
    return [f"L12 {node.id}"] if node.id.startswith("_") else []


def constant_faults(node):
    """L7 and L27, of a written value."""
    if isinstance(node.value, (float, complex, bytes)) or node.value is ...:
        return [f"L7 row {node.lineno}"]
    return [f"L27 row {node.lineno}"] if isinstance(node.value, str) and "%" in node.value else []


def attribute_faults(node):
    """L12, L17 and L26, of a method or a value."""
    if node.attr in REFUSED_ATTRIBUTES or (node.attr.startswith("_") and node.attr not in DOUBLE_METHODS):
        return [f"L17 {node.attr}"]
    return []


def method_faults(tree, own_methods):
    """L25: methods that are neither the package's own nor listed."""
    called = [node.func.attr for node in ast.walk(tree)
              if isinstance(node, ast.Call) and isinstance(node.func, ast.Attribute)]
    allowed = OWN_METHODS + DOUBLE_METHODS + own_methods
    return [f"L25 {name}" for name in called if name not in allowed]


def braces_faults(node):
    """L7: what stands in an f-string's braces."""
    plain = isinstance(node.value, ast.Name) and node.format_spec is None and node.conversion in (-1, ord("r"))
    return [] if plain else [f"L7 row {node.lineno}"]


LOOKS = {
    ast.FormattedValue: braces_faults,
    ast.Import: import_faults,
    ast.ImportFrom: import_faults,
    ast.FunctionDef: function_faults,
    ast.ClassDef: class_faults,
    ast.Compare: compare_faults,
    ast.Name: name_faults,
    ast.Constant: constant_faults,
    ast.Attribute: attribute_faults,
}


def node_faults(node):
    faults = []
    if not isinstance(node, ALLOWED_NODES) or isinstance(node, REFUSED_NODES):
        faults.append(f"L6/L7 {node.__class__.__name__}")
    if isinstance(node, ast.Assign) and len(node.targets) > 1:
        faults.append(f"L6 row {node.lineno}")
    if isinstance(node, (ast.For, ast.While)) and node.orelse:
        faults.append(f"L6 row {node.lineno}")
    if isinstance(node, ast.Try) and (node.finalbody or [one for one in node.handlers if one.type is None]):
        faults.append(f"L6 row {node.lineno}")
    if isinstance(node, ast.ListComp) and (len(node.generators) > 1 or len(node.generators[0].ifs) > 1):
        faults.append(f"L7 row {node.lineno}")
    if is_power_of_two(node):
        faults.append(f"L27 row {node.lineno}")
    look = LOOKS.get(node.__class__)
    return faults + (look(node) if look else [])


def methods_of(tree):
    """The names of the methods that a file's classes define."""
    classes = [node for node in tree.body if isinstance(node, ast.ClassDef)]
    return [part.name for node in classes for part in node.body if isinstance(part, ast.FunctionDef)]


def parents_of(tree):
    """Each node's own parent."""
    return {part: node for node in ast.walk(tree) for part in ast.iter_child_nodes(node)}


def called_name(node):
    """The name of the function or method that a call calls, or None."""
    if not isinstance(node, ast.Call):
        return None
    return getattr(node.func, "id", getattr(node.func, "attr", None))


def is_walked(node, parent):
    """Whether a node stands behind the `in` of a loop or a comprehension."""
    return isinstance(parent, (ast.For, ast.comprehension)) and parent.iter is node


def walk_faults(tree):
    """L23: what is to be walked on the spot, but is kept."""
    parents = parents_of(tree)
    made = [node for node in ast.walk(tree) if called_name(node) in WALKED]
    return [f"L23 row {node.lineno}" for node in made
            if not is_walked(node, parents[node]) and called_name(parents[node]) not in WALKERS]


def set_faults(tree):
    """L24: sets that are kept or walked."""
    parents = parents_of(tree)
    made = [node for node in ast.walk(tree) if isinstance(node, ast.Set) or called_name(node) in ("set", "frozenset")]
    return [f"L24 row {node.lineno}" for node in made
            if not isinstance(parents[node], (ast.Compare, ast.BinOp)) and called_name(parents[node]) not in ("sorted", "len")]


def is_read(node, parent):
    """Whether a list or dict of a file's top is only read where it stands."""
    if isinstance(parent, ast.Subscript):
        return isinstance(parent.ctx, ast.Load)
    if isinstance(parent, ast.Attribute):
        return parent.attr in READING_METHODS
    return is_walked(node, parent) or isinstance(parent, ast.Compare) or called_name(parent) in READERS


def top_value_faults(tree):
    """L15: lists and dicts of a file's top that hold such ones, or are not only read."""
    parents = parents_of(tree)
    kept = [node for node in tree.body if isinstance(node, ast.Assign) and isinstance(node.value, (ast.List, ast.Dict))]
    faults = [f"L15 row {node.lineno}" for node in kept for part in ast.walk(node.value)
              if part is not node.value and isinstance(part, (ast.List, ast.Dict))]
    names = [target.id for node in kept for target in node.targets]
    used = [node for node in ast.walk(tree) if isinstance(node, ast.Name) and isinstance(node.ctx, ast.Load)]
    return faults + [f"L15 {node.id}" for node in used if node.id in names and not is_read(node, parents[node])]


def error_faults(tree):
    """L19: Python's own errors that are taken, but for the three that may be anywhere."""
    handlers = [node for node in ast.walk(tree) if isinstance(node, ast.ExceptHandler) and node.type is not None]
    taken = [name.id for node in handlers for name in class_places(node)]
    return [f"L19 {name}" for name in taken if hasattr(builtins, name) and name not in TAKEN_ERRORS]


def own_name_faults(tree):
    """L26: values and methods that are called as Python's own values call theirs."""
    values = [node.attr for node in ast.walk(tree) if isinstance(node, ast.Attribute) and isinstance(node.ctx, ast.Store)]
    allowed = OWN_METHODS + DOUBLE_METHODS + ["add", "discard"]
    methods = [name for name in methods_of(tree) if name not in allowed]
    faults = [f"L26 {name}" for name in values if name in PYTHON_ATTRIBUTES and name not in VALUE_NAMES]
    return faults + [f"L26 {name}" for name in methods if name in PYTHON_ATTRIBUTES]


def shadow_faults(tree):
    """L15: parameters and locals that are called like a class or an import of their file."""
    taken = [node.name for node in tree.body if isinstance(node, ast.ClassDef)]
    taken += [alias.name for node in tree.body if isinstance(node, ast.ImportFrom) for alias in node.names]
    bound = [node.arg for node in ast.walk(tree) if isinstance(node, ast.arg)]
    bound += [node.id for node in ast.walk(tree) if isinstance(node, ast.Name) and isinstance(node.ctx, ast.Store)]
    return [f"L15 {name}" for name in bound if name in taken]


def class_places(node):
    """The names in a node that stand where a class may stand."""
    if isinstance(node, ast.ClassDef):
        return node.bases
    if isinstance(node, ast.ExceptHandler):
        return node.type.elts if isinstance(node.type, ast.Tuple) else [node.type]
    if not isinstance(node, ast.Call):
        return [node.value] if isinstance(node, ast.Attribute) and node.attr == "__init__" else []
    if isinstance(node.func, ast.Name) and node.func.id == "isinstance":
        return node.args[1].elts if isinstance(node.args[1], ast.Tuple) else node.args[1:]
    return [node.func]


def class_use_faults(tree, own_classes):
    """L18: classes that are kept, handed on or shown."""
    allowed = [place for node in ast.walk(tree) for place in class_places(node)]
    read = [node for node in ast.walk(tree) if isinstance(node, ast.Name) and isinstance(node.ctx, ast.Load)]
    return [f"L18 {node.id}" for node in read if node.id in own_classes and node not in allowed]


def defined_names(tree):
    """The names that a file's top defines itself."""
    names = [node.name for node in tree.body if isinstance(node, (ast.FunctionDef, ast.ClassDef))]
    return names + [target.id for node in tree.body if isinstance(node, ast.Assign) for target in node.targets]


def draws(trees):
    """Of each file, by its full name, which files it draws from and by which name."""
    return {file: [(node.module, alias.name) for node in tree.body if isinstance(node, ast.ImportFrom)
                   for alias in node.names] for file, tree in trees.items()}


def import_order_faults(trees):
    """L16: names drawn from a file that does not define them, and files that draw from one another."""
    drawn = draws(trees)
    faults = [f"L16 {name} from {module}" for pairs in drawn.values() for module, name in pairs
              if module not in trees or name not in defined_names(trees[module])]
    waiting = list(trees)
    ready = waiting
    while ready:
        ready = [file for file in waiting if not [module for module, name in drawn[file] if module in waiting]]
        waiting = [file for file in waiting if file not in ready]
    return faults + [f"L16 {file} draws from files in a ring" for file in waiting]


def package_faults(texts):
    """What is seen only where all files of the package, by their full names, are looked at together."""
    trees = {file: ast.parse(text) for file, text in texts.items()}
    nodes = [node for tree in trees.values() for node in ast.walk(tree)]
    methods = [name for tree in trees.values() for name in methods_of(tree)]
    values = [node.attr for node in nodes if isinstance(node, ast.Attribute) and isinstance(node.ctx, ast.Store)]
    classes = [node.name for node in nodes if isinstance(node, ast.ClassDef)]
    faults = import_order_faults(trees) + [f"L18 {name}" for name in values if name in methods]
    for tree in trees.values():
        faults += class_use_faults(tree, classes)
    return faults


def faults_of(text, own_methods=()):
    """Each fault that is seen in a file's text, with its rule's number."""
    tree = ast.parse(text)
    faults = text_faults(text) + top_faults(tree) + method_faults(tree, list(own_methods)) + shadow_faults(tree)
    for look in (walk_faults, set_faults, top_value_faults, error_faults, own_name_faults):
        faults += look(tree)
    for node in ast.walk(tree):
        faults += node_faults(node)
    return faults
