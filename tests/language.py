"""Looks through the package's files for what its part of Python leaves out; tells rows "file:line rule"."""

import ast
import builtins
import os
import re

PYTHON_NAMES = set(dir(builtins))
ERRORS = set(
    "Exception ValueError TypeError KeyError IndexError LookupError ZeroDivisionError ArithmeticError OverflowError"
    " RuntimeError NotImplementedError AttributeError StopIteration".split())
ALLOWED_NAMES = ERRORS | set(
    "len range enumerate zip min max sum abs sorted reversed int str bool list tuple dict set frozenset isinstance ord"
    " repr any all divmod True False None object float bytes".split())
STATEMENTS = (
    ast.Assign, ast.AugAssign, ast.If, ast.While, ast.For, ast.Return, ast.Break, ast.Continue, ast.Pass, ast.Raise,
    ast.Try, ast.Expr, ast.FunctionDef, ast.ClassDef, ast.ImportFrom)
EXPRESSIONS = (
    ast.Constant, ast.Name, ast.List, ast.Tuple, ast.Dict, ast.Set, ast.BinOp, ast.UnaryOp, ast.BoolOp, ast.Compare,
    ast.IfExp, ast.Call, ast.Attribute, ast.Subscript, ast.Slice, ast.ListComp, ast.JoinedStr, ast.FormattedValue,
    ast.Lambda)
METHODS = set(
    "append clear copy count endswith extend find get index insert isalnum isalpha isdigit islower isspace isupper"
    " items join keys ljust lower lstrip partition pop remove replace reverse rfind rjust rpartition rsplit rstrip"
    " setdefault split splitlines startswith strip update upper values zfill bit_length".split())
OWN_METHODS = METHODS | {"add", "discard"}
OWN_VALUES = set("count index title find get join lower upper split strip copy add".split())
TAKEN = set().union(*[dir(kind) for kind in (str, int, list, dict, set, frozenset, tuple, bytes, bytearray)])
DUNDERS = ("__init__", "__eq__", "__repr__", "__str__", "__len__")
KEYWORDS = {
    "sorted": ("key", "reverse"), "min": ("key", "default"), "max": ("key", "default"), "sum": ("start",),
    "enumerate": ("start",), "zip": ("strict",)}
BANNED_NAMES = set(
    "attrgetter breakpoint builtins compile copyright credits delattr dir eval exec exit gc getattr globals hasattr"
    " help id importlib license locals methodcaller os quit setattr super type vars register mro elements open"
    " input version_info with_traceback add_note sys".split())
BANNED_ATTRIBUTES = set(
    "register mro elements open input version_info with_traceback add_note format format_map".split())
BANNED_WORDS = re.compile(
    r"\b(type|typing|typing_extensions|enum|Enum|IntEnum|StrEnum|Flag|IntFlag|Generic|Protocol|ABC|ABCMeta|namedtuple"
    r"|NamedTuple|TypedDict|TYPE_CHECKING|abstractmethod)\b|dataclass|overload|contextmanager")
BANNED_FILES = re.compile(r"test|tests|testing|test_.*|site|conftest|sitecustomize|usercustomize")


class Module:
    def __init__(self, folder, name):
        self.name = name
        with open(os.path.join(folder, name), encoding="utf-8") as file:
            self.text = file.read()
        self.lines = self.text.split("\n")
        self.tree = ast.parse(self.text)
        self.faults = []

    def fault(self, node, rule):
        line = node if isinstance(node, int) else getattr(node, "lineno", 1)
        self.faults.append(f"{self.name}:{line} {rule}")

    def nodes(self, *kinds):
        return [node for node in ast.walk(self.tree) if isinstance(node, kinds)]


def plain_value(node):
    if isinstance(node, (ast.List, ast.Tuple)):
        return all(plain_value(part) for part in node.elts)
    if isinstance(node, ast.Dict):
        return all(part is not None and plain_value(part) for part in node.keys + node.values)
    if isinstance(node, ast.UnaryOp):
        return isinstance(node.op, ast.USub) and plain_value(node.operand)
    return isinstance(node, (ast.Constant, ast.Name))


def holds_changeable(node):
    parts = node.elts if isinstance(node, ast.List) else node.keys + node.values if isinstance(node, ast.Dict) else []
    return any(isinstance(inner, (ast.List, ast.Dict)) for part in parts for inner in ast.walk(part))


def check_signs(module):
    if len(module.lines) > 401 or not module.text.isascii() or "\t" in module.text or "\r" in module.text:
        module.fault(1, "L10 or L14")
    for number, line in enumerate(module.lines, start=1):
        if len(line) > 120:
            module.fault(number, "L10")
        if BANNED_WORDS.search(line):
            module.fault(number, "L17")


def check_imports(module, package, tops):
    for node in module.nodes(ast.ImportFrom):
        source = node.module or ""
        if source == "__future__":
            continue
        if node.level or not source.startswith(package + ".") or node not in module.tree.body:
            module.fault(node, "L2")
            continue
        for alias in node.names:
            if alias.name not in tops.get(source.split(".", 1)[1] + ".py", []):
                module.fault(node, "L16")


def check_cycles(modules, package):
    draws = {
        module.name: [node.module.split(".", 1)[1] + ".py" for node in module.nodes(ast.ImportFrom)
                      if (node.module or "").startswith(package + ".")] for module in modules}
    for module in modules:
        seen, wanted = [], list(draws[module.name])
        while wanted:
            name = wanted.pop()
            if name not in seen:
                seen.append(name)
                wanted.extend(draws.get(name, []))
        if module.name in seen:
            module.fault(1, "L16")


def check_top(module):
    bound = []
    for node in module.tree.body:
        if isinstance(node, ast.Assign):
            if len(node.targets) != 1 or not isinstance(node.targets[0], ast.Name) or not plain_value(node.value):
                module.fault(node, "L3")
            if holds_changeable(node.value):
                module.fault(node, "L15")
        elif isinstance(node, ast.Expr):
            if node != module.tree.body[0] or not isinstance(node.value, ast.Constant):
                module.fault(node, "L3")
        elif not isinstance(node, (ast.ImportFrom, ast.FunctionDef, ast.ClassDef)):
            module.fault(node, "L3")
        bound.extend(bound_by(node))
    for name in set(bound):
        if bound.count(name) > 1 or name in PYTHON_NAMES:
            module.fault(1, f"L15 {name}")


def bound_by(node):
    if isinstance(node, ast.Assign):
        return [target.id for target in node.targets if isinstance(target, ast.Name)]
    if isinstance(node, ast.ImportFrom):
        return [alias.asname or alias.name for alias in node.names]
    return [node.name] if isinstance(node, (ast.FunctionDef, ast.ClassDef)) else []


def check_functions(module):
    for node in module.nodes(ast.FunctionDef, ast.Lambda):
        rest = node.args
        if rest.vararg or rest.kwarg or rest.kwonlyargs or rest.posonlyargs:
            module.fault(node, "L4")
        if not all(isinstance(value, ast.Constant) or plain_value(value) for value in rest.defaults):
            module.fault(node, "L4")
    for node in module.nodes(ast.FunctionDef):
        if node.end_lineno - node.lineno + 1 > 40:
            module.fault(node, "L10")
        if node.decorator_list or node.returns or any(each.annotation for each in node.args.args):
            module.fault(node, "L4 or L21")
        returns = [each for each in ast.walk(node) if isinstance(each, ast.Return)]
        if node.name == "__init__" and any(each.value is not None for each in returns):
            module.fault(node, "L28")


def check_classes(module):
    for node in module.nodes(ast.ClassDef):
        if node not in module.tree.body or node.decorator_list or node.keywords or len(node.bases) > 1:
            module.fault(node, "L5")
        names = [each.name for each in node.body if isinstance(each, ast.FunctionDef)]
        if len(names) != len(set(names)):
            module.fault(node, "L18")
        for at, each in enumerate(node.body):
            docstring = at == 0 and isinstance(each, ast.Expr) and isinstance(each.value, ast.Constant)
            if not docstring and not isinstance(each, (ast.FunctionDef, ast.Pass)):
                module.fault(each, "L5")


def check_statements(module):
    for node in module.nodes(ast.stmt):
        if not isinstance(node, STATEMENTS):
            module.fault(node, "L6")
        if isinstance(node, (ast.For, ast.While)) and node.orelse or isinstance(node, ast.Try) and node.finalbody:
            module.fault(node, "L6")
        if isinstance(node, ast.Assign) and len(node.targets) > 1:
            module.fault(node, "L6")
        if isinstance(node, ast.Expr) and not isinstance(node.value, (ast.Call, ast.Constant)):
            module.fault(node, "L6")
        if isinstance(node, ast.Raise) and not isinstance(node.exc, ast.Call):
            module.fault(node, "L19")
    for node in module.nodes(ast.ExceptHandler):
        named = [each.id for each in ast.walk(node.type) if isinstance(each, ast.Name)] if node.type else [""]
        if any(name in ("", "Exception", "TypeError", "AttributeError") for name in named):
            module.fault(node, "L19")


def check_expressions(module):
    for node in module.nodes(ast.expr):
        if not isinstance(node, EXPRESSIONS):
            module.fault(node, "L7")
        if isinstance(node, ast.BinOp) and isinstance(node.op, (ast.Div, ast.MatMult)):
            module.fault(node, "L7")
        if isinstance(node, ast.BinOp) and isinstance(node.op, ast.Pow) and not isinstance(node.right, ast.Constant):
            module.fault(node, "L27")
        if isinstance(node, ast.ListComp) and (len(node.generators) > 1 or len(node.generators[0].ifs) > 1):
            module.fault(node, "L7")
        if isinstance(node, ast.FormattedValue) and (not isinstance(node.value, ast.Name) or node.format_spec):
            module.fault(node, "L7")
        if isinstance(node, ast.Constant) and not isinstance(node.value, (int, str, bool, type(None))):
            module.fault(node, "L7")
        if isinstance(node, ast.Constant) and isinstance(node.value, str) and "%" in node.value:
            module.fault(node, "L27")
        if isinstance(node, ast.Compare) and any(isinstance(op, (ast.Is, ast.IsNot)) for op in node.ops):
            if not any(isinstance(side, ast.Constant) for side in [node.left] + node.comparators):
                module.fault(node, "L20")


def check_names(module):
    tops = [name for node in module.tree.body if isinstance(node, (ast.ImportFrom, ast.ClassDef))
            for name in bound_by(node)]
    for node in module.nodes(ast.Name, ast.arg):
        name = node.id if isinstance(node, ast.Name) else node.arg
        stored = isinstance(node, ast.arg) or isinstance(node.ctx, ast.Store)
        if name.startswith("_"):
            module.fault(node, "L12")
        if name in BANNED_NAMES or not stored and name in PYTHON_NAMES - ALLOWED_NAMES:
            module.fault(node, f"L8 or L17 {name}")
        if stored and (name in PYTHON_NAMES or name in tops):
            module.fault(node, f"L15 {name}")
    for node in module.nodes(ast.FunctionDef, ast.ClassDef):
        if node.name.startswith("_") and node.name not in DUNDERS:
            module.fault(node, "L12")


def check_attributes(module, methods):
    called = [node.func for node in module.nodes(ast.Call)]
    for node in module.nodes(ast.Attribute):
        if node.attr in BANNED_ATTRIBUTES or node.attr.startswith("_") and node.attr != "__init__":
            module.fault(node, "L12 or L17")
        if node in called and node.attr not in METHODS and node.attr not in methods + ["__init__"]:
            module.fault(node, f"L25 {node.attr}")
    for node in module.nodes(ast.Call):
        name = node.func.id if isinstance(node.func, ast.Name) else getattr(node.func, "attr", "")
        if name in PYTHON_NAMES | METHODS and any(each.arg not in KEYWORDS.get(name, ()) for each in node.keywords):
            module.fault(node, "L22")


def check_sets(module):
    parents = {child: node for node in ast.walk(module.tree) for child in ast.iter_child_nodes(node)}
    for node in module.nodes(ast.Call):
        if not isinstance(node.func, ast.Name) or node.func.id not in ("set", "frozenset"):
            continue
        above = parents[node]
        while isinstance(above, ast.BinOp):
            above = parents[above]
        walked = isinstance(above, ast.Call) and getattr(above.func, "id", "") in ("sorted", "len")
        if not isinstance(above, ast.Compare) and not walked:
            module.fault(node, "L24")


WALKED = ("zip", "enumerate", "reversed", "range")
WALKED_METHODS = ("items", "keys", "values")
WALKERS = ("list", "tuple", "dict", "sorted", "sum", "any", "all", "enumerate", "zip")


def is_walked(node, above):
    """Whether what is to be walked at once stands where it is."""
    if isinstance(above, (ast.For, ast.comprehension)):
        return above.iter is node
    if not isinstance(above, ast.Call) or not above.args or above.args[0] is not node:
        return False
    if isinstance(above.func, ast.Attribute):
        return above.func.attr == "join" and isinstance(above.func.value, ast.Constant)
    name = getattr(above.func, "id", "")
    return name in WALKERS or name in ("min", "max") and len(above.args) == 1


def check_walks(module):
    parents = {child: node for node in ast.walk(module.tree) for child in ast.iter_child_nodes(node)}
    for node in module.nodes(ast.Call):
        name = getattr(node.func, "id", "")
        method = getattr(node.func, "attr", "")
        if (name in WALKED or method in WALKED_METHODS) and not is_walked(node, parents[node]):
            module.fault(node, "L23")


CHANGES = ("append", "clear", "extend", "insert", "pop", "remove", "reverse", "setdefault", "update")


def walked_by(node):
    """What a loop walks, itself or through what Python lays over it."""
    if isinstance(node, ast.Call) and getattr(node.func, "id", "") in ("enumerate", "zip", "reversed"):
        return [each for part in node.args for each in walked_by(part)]
    if isinstance(node, ast.Call) and getattr(node.func, "attr", "") in WALKED_METHODS:
        return [node.func.value]
    return [node] if isinstance(node, (ast.Name, ast.Attribute, ast.Subscript)) else []


def changed_by(node):
    if isinstance(node, ast.Call) and getattr(node.func, "attr", "") in CHANGES:
        return [node.func.value]
    if isinstance(node, (ast.Assign, ast.AugAssign)):
        targets = node.targets if isinstance(node, ast.Assign) else [node.target]
        return [target.value for target in targets if isinstance(target, ast.Subscript)]
    return []


def same(one, other):
    return ast.dump(one).replace("Store()", "Load()") == ast.dump(other).replace("Store()", "Load()")


def check_loops(module):
    for loop in module.nodes(ast.For):
        changed = [each for part in loop.body for node in ast.walk(part) for each in changed_by(node)]
        if any(same(one, other) for one in walked_by(loop.iter) for other in changed):
            module.fault(loop, "L23")


def check_class_uses(modules):
    classes = [node.name for module in modules for node in module.nodes(ast.ClassDef)]
    for module in modules:
        parents = {child: node for node in ast.walk(module.tree) for child in ast.iter_child_nodes(node)}
        for node in module.nodes(ast.Name):
            if node.id not in classes and node.id not in ERRORS:
                continue
            above = parents[node]
            if isinstance(above, ast.Tuple):
                above = parents[above]
            asked = isinstance(above, ast.Call) and getattr(above.func, "id", "") == "isinstance"
            called = isinstance(above, (ast.Call, ast.Attribute)) and node in (
                getattr(above, "func", None), getattr(above, "value", None))
            if not asked and not called and not isinstance(above, (ast.ClassDef, ast.ExceptHandler)):
                module.fault(node, f"L18 {node.id}")


def check_own_names(modules):
    methods, values = [], []
    for module in modules:
        for node in module.nodes(ast.ClassDef):
            found = [each.name for each in node.body if isinstance(each, ast.FunctionDef) and each.name not in DUNDERS]
            methods.extend(found)
            if any(name in TAKEN - OWN_METHODS for name in found):
                module.fault(node, "L26")
        for node in module.nodes(ast.Attribute):
            if isinstance(node.ctx, ast.Store):
                values.append(node.attr)
                if node.attr in TAKEN - OWN_VALUES or node.attr == "args":
                    module.fault(node, "L26")
    for name in set(methods) & set(values):
        modules[0].fault(1, f"L18 {name}")
    return methods


def check_files(folder):
    found = []
    for name in sorted(os.listdir(folder)):
        stem = name[:-3]
        if name == "__pycache__":
            continue
        if not re.fullmatch(r"[a-z0-9_]+\.py", name) or BANNED_FILES.fullmatch(stem) or stem in PYTHON_NAMES:
            found.append(f"{name}: L1 or L14")
    return found if "__init__.py" in os.listdir(folder) else found + ["no __init__.py: L14"]


def faults_of(folder, package):
    """All rows for the package in a folder."""
    faults = check_files(folder)
    modules = [Module(folder, name) for name in sorted(os.listdir(folder)) if name.endswith(".py")]
    tops = {module.name: [name for node in module.tree.body if not isinstance(node, ast.ImportFrom)
                          for name in bound_by(node)] for module in modules}
    methods = check_own_names(modules)
    check_cycles(modules, package)
    check_class_uses(modules)
    for module in modules:
        check_imports(module, package, tops)
        check_attributes(module, methods)
        for check in [check_signs, check_top, check_functions, check_classes, check_statements, check_expressions,
                      check_names, check_sets, check_walks, check_loops]:
            check(module)
        faults.extend(module.faults)
    return faults
