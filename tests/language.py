"""Checks of the rules of LANGUAGE.md that a short script can see, stricter where this is simpler.

Kinds of syntax that the package does not use yet are refused as a whole: let them in here,
with what their rule asks, when a file needs them.
"""

import ast
import builtins
import os
import re

PACKAGE = "fetchunseen"
LIBRARY = {
    "math": {"gcd", "lcm", "isqrt", "comb", "perm", "factorial"},
    "itertools": {"product", "combinations", "permutations"},
}
NODES = {
    "Module", "Expr", "Constant", "ImportFrom", "alias", "FunctionDef", "ClassDef", "arguments", "arg", "Return", "If",
    "While", "For", "Continue", "Break", "Raise", "Assign", "AugAssign", "Compare", "BoolOp", "BinOp", "UnaryOp", "IfExp",
    "Call", "Attribute", "Name", "Subscript", "Slice", "Tuple", "List", "Dict", "Set", "ListComp", "DictComp",
    "comprehension", "Starred", "Load", "Store", "And", "Or", "Not", "USub", "Add", "Sub", "Mult", "FloorDiv", "Mod", "Pow",
    "Eq", "NotEq", "Lt", "LtE", "Gt", "GtE", "Is", "IsNot", "In", "NotIn", "LShift", "RShift", "BitAnd", "Pass",
    "JoinedStr", "FormattedValue",
}
OWN_SIGNS = {"__init__", "__eq__", "__str__"}
# The classes whose objects change, by their methods and by functions of their file.
CHANGING = {"Desk", "Lines"}
BUILTINS = {
    "len", "range", "enumerate", "zip", "min", "max", "sum", "abs", "sorted", "reversed", "int", "str", "bool", "list",
    "tuple", "dict", "set", "isinstance", "ord", "repr", "any", "all", "divmod", "Exception", "ValueError", "TypeError",
    "KeyError", "IndexError", "LookupError", "ZeroDivisionError", "ArithmeticError", "OverflowError", "RuntimeError",
    "NotImplementedError", "NotImplemented",
}
ON_THE_SPOT = {"zip", "range", "enumerate", "reversed", "combinations", "permutations", "product"}
ITERATING = {"list", "tuple", "sorted", "sum", "any", "all", "min", "max", "enumerate", "zip"}
METHODS = set("""append clear copy count endswith extend find get index insert isalnum isalpha isdigit islower isspace
    isupper items join keys ljust lower lstrip partition pop remove replace reverse rfind rjust rpartition rsplit rstrip
    setdefault split splitlines startswith strip update upper values zfill bit_length""".split())
BARRED = set("""register mro elements open input law version_info with_traceback add_note attrgetter breakpoint builtins
    compile copyright credits delattr dir eval exec exit gc getattr globals hasattr help id importlib license locals
    methodcaller os quit setattr super type vars sys typing typing_extensions enum Enum IntEnum StrEnum Flag IntFlag
    Generic Protocol ABC ABCMeta namedtuple NamedTuple TypedDict TYPE_CHECKING abstractmethod dataclass overload
    contextmanager _wall _WallAttr""".split())
BARRED_FILES = {"test", "tests", "testing", "site", "conftest", "sitecustomize", "usercustomize", "heapq", "math", "itertools"}


def package_files(top):
    """The paths of all .py files of the package, relative, ascending, and what else lies there."""
    files, strays = [], []
    for folder, folders, names in os.walk(os.path.join(top, PACKAGE)):
        folders[:] = sorted([name for name in folders if name != "__pycache__"])
        for name in sorted(names):
            path = os.path.relpath(os.path.join(folder, name), top)
            (files if name.endswith(".py") else strays).append(path)
        if "__init__.py" not in names:
            strays.append(os.path.relpath(folder, top))
    return files, strays


def module_of(path):
    parts = path[:-len(".py")].split("/")
    return ".".join(parts[:-1] if parts[-1] == "__init__" else parts)


class Package:
    """The texts and trees of the package, and what each module defines."""

    def __init__(self, texts):
        self.texts = texts
        self.trees = {path: ast.parse(text) for path, text in texts.items()}
        self.defined = {module_of(path): defined_in(tree) for path, tree in self.trees.items()}
        self.functions = {}
        self.classes = {}
        self.attributes = {}
        self.methods = {}
        for tree in self.trees.values():
            for node in tree.body:
                if isinstance(node, ast.FunctionDef):
                    self.functions.setdefault(node.name, []).append(len(node.args.args))
                if isinstance(node, ast.ClassDef):
                    self.classes[node.name] = node
                    self.attributes[node.name] = attributes_of(node)
                    self.methods[node.name] = {one.name: len(one.args.args) - 1 for one in node.body
                                               if isinstance(one, ast.FunctionDef)}

    def problems(self):
        found = []
        for path in self.texts:
            for check in CHECKS:
                found.extend([f"{path}:{line}: {why}" for line, why in check(self, path)])
        return found + cycles(self)


def attributes_of(tree):
    """The attributes that are assigned to self."""
    return {node.attr for node in ast.walk(tree) if isinstance(node, ast.Attribute) and isinstance(node.ctx, ast.Store)
            and isinstance(node.value, ast.Name) and node.value.id == "self"}


def is_builtin(name):
    return hasattr(builtins, name) and not name.startswith("__")


def defined_in(tree):
    names = []
    for node in tree.body:
        if isinstance(node, (ast.FunctionDef, ast.ClassDef)):
            names.append(node.name)
        if isinstance(node, ast.Assign):
            names.extend([target.id for target in node.targets if isinstance(target, ast.Name)])
    return names


def parents_of(tree):
    return {child: node for node in ast.walk(tree) for child in ast.iter_child_nodes(node)}


def names_of_files(package, path):
    for name in path[:-len(".py")].split("/"):
        stem_fits = re.fullmatch(r"[a-z][a-z0-9_]*|__init__|__main__", name)
        if not stem_fits or name in BARRED_FILES | BARRED or is_builtin(name):
            yield 1, f"L1, L14: the name {name}"
    if os.path.dirname(path) + "/" + os.path.basename(path)[:-3] in [os.path.dirname(one) for one in package.texts]:
        yield 1, "L14: a folder of this name lies beside it"


def lines(package, path):
    rows = package.texts[path].split("\n")
    if len(rows) > 400:
        yield len(rows), "L10: more than 399 lines"
    for at, row in enumerate(rows, 1):
        if len(row) > 120:
            yield at, "L10: more than 120 characters"
        if not all(" " <= sign <= "~" for sign in row):
            yield at, "L14: an unlike character"
        if re.search(r"\\[^nt\\\"']", row) or row.endswith("\\"):
            yield at, "L27: an escape"
    for node in ast.walk(package.trees[path]):
        if isinstance(node, ast.FunctionDef) and node.end_lineno - node.lineno + 1 > 40:
            yield node.lineno, "L10: a function of more than 40 lines"


def syntax(package, path):
    parents = parents_of(package.trees[path])
    for node in ast.walk(package.trees[path]):
        line = getattr(node, "lineno", 1)
        if type(node).__name__ not in NODES:
            yield line, f"{type(node).__name__} is not used in this package"
        if getattr(node, "decorator_list", []):
            yield line, "L4: a decorator"
        if isinstance(node, (ast.FunctionDef, ast.ClassDef)) and not isinstance(parents[node], (ast.Module, ast.ClassDef)):
            yield line, "a nested function or class"
        if isinstance(node, ast.Compare) and any(isinstance(sign, (ast.Is, ast.IsNot)) for sign in node.ops):
            if not isinstance(node.comparators[0], ast.Constant) or node.comparators[0].value not in (None, True, False):
                yield line, "L20: is"
        if isinstance(node, ast.FunctionDef) and node.name == "__init__":
            if any(isinstance(inner, ast.Return) for inner in ast.walk(node)):
                yield line, "L28: __init__ returns"
        if isinstance(node, ast.FunctionDef) and node.name in ("__eq__", "__str__"):
            if len(node.body) != 1 or not isinstance(node.body[0], ast.Return):
                yield line, "L28: more than one return"
        if isinstance(node, ast.Attribute) and isinstance(node.ctx, ast.Store) and not is_own(parents, node):
            if not is_changing(package, path, parents, node):
                yield line, "an attribute is assigned to something else than self, or outside of __init__"
        if isinstance(node, ast.Call) and isinstance(node.func, ast.Subscript):
            yield line, "L3: a function of a table is called without a name"
        if isinstance(node, ast.FormattedValue):
            if node.conversion != -1 or node.format_spec or any(isinstance(inner, ast.Constant) for inner in ast.walk(node)):
                yield line, "L7, L27: what stands in an f-string"


def function_of(parents, node):
    """The name of the function in which the node stands."""
    above = parents[node]
    while not isinstance(above, (ast.FunctionDef, ast.Module)):
        above = parents[above]
    return getattr(above, "name", "")


def is_own(parents, node):
    """Whether what is assigned is an attribute of self in an __init__."""
    return isinstance(node.value, ast.Name) and node.value.id == "self" and function_of(parents, node) == "__init__"


def is_changing(package, path, parents, node):
    """Whether what is assigned is an attribute of an object that changes, in the file of its class."""
    if not isinstance(node.value, ast.Name) or function_of(parents, node) in OWN_SIGNS:
        return False
    return any(node.attr in package.attributes[name] for name in CHANGING & set(defined_in(package.trees[path])))


def classes(package, path):
    """L5, L18, L26: the names of methods and attributes."""
    for node in package.trees[path].body:
        if not isinstance(node, ast.ClassDef):
            continue
        names = [one.name for one in node.body if isinstance(one, ast.FunctionDef)]
        if len(names) != len(set(names)) or set(names) & package.attributes[node.name]:
            yield node.lineno, "L18: a method twice, or a method and an attribute"
        for name in names + sorted(package.attributes[node.name]):
            if name not in OWN_SIGNS and any(hasattr(kind, name) for kind in (str, int, list, dict, set, bytes, tuple)):
                yield node.lineno, f"L26: {name} is a name of builtin values"
            if name in BARRED | {"args", "format", "format_map"}:
                yield node.lineno, f"L17: {name}"
        for one in node.body:
            if isinstance(one, ast.FunctionDef) and one.name.startswith("__") and one.name not in OWN_SIGNS:
                yield one.lineno, f"{one.name} is not used in this package"
            if not isinstance(one, ast.FunctionDef) and not isinstance(one, ast.Expr):
                yield one.lineno, "L5: a class value"


def imports(package, path):
    body = package.trees[path].body
    begun = False
    for at, node in enumerate(body):
        if not isinstance(node, ast.ImportFrom):
            begun = begun or at > 0 or not isinstance(node, ast.Expr)
            continue
        if begun:
            yield node.lineno, "L2: an import below the top"
        for name in node.names:
            if node.level or name.asname or name.name == "*":
                yield node.lineno, "L2: the form of an import"
            elif node.module in LIBRARY:
                if name.name not in LIBRARY[node.module]:
                    yield node.lineno, f"L2: {name.name} of {node.module}"
            elif name.name not in package.defined.get(node.module, []):
                yield node.lineno, f"L16: {node.module} does not define {name.name}"
            if name.name not in [one.id for one in ast.walk(package.trees[path]) if isinstance(one, ast.Name)]:
                yield node.lineno, f"{name.name} is imported for nothing"


def imported_by(package, path):
    found = []
    for node in package.trees[path].body:
        if isinstance(node, ast.ImportFrom) and node.module.startswith(PACKAGE):
            parts = node.module.split(".")
            found.append(node.module)
            found.extend([".".join(parts[:many]) for many in range(1, len(parts))])
    return found


def cycles(package):
    above = {module_of(path): imported_by(package, path) for path in package.texts}
    found = []
    for module in above:
        reached, left = set(), list(above[module])
        while left:
            some = left.pop()
            if some not in reached:
                reached.add(some)
                left.extend(above.get(some, []))
        if module in reached:
            found.append(f"{module}: L16: it imports itself through others")
    return found


def module_level(package, path):
    bound = []
    for at, node in enumerate(package.trees[path].body):
        if isinstance(node, ast.ImportFrom):
            bound.extend([name.name for name in node.names])
        elif isinstance(node, (ast.FunctionDef, ast.ClassDef)):
            bound.append(node.name)
        elif isinstance(node, ast.Assign):
            if len(node.targets) != 1 or not isinstance(node.targets[0], ast.Name):
                yield node.lineno, "L3: the target"
            else:
                bound.append(node.targets[0].id)
            if any(isinstance(inner, (ast.Call, ast.ListComp, ast.Set)) for inner in ast.walk(node.value)):
                yield node.lineno, "L3: no plain value"
            above = {one.name for one in package.trees[path].body[:at] if isinstance(one, ast.FunctionDef)}
            if {inner.id for inner in ast.walk(node.value) if isinstance(inner, ast.Name)} - above:
                yield node.lineno, "L3: no function that is defined above"
            if isinstance(node.value, ast.Name):
                yield node.lineno, "L3: a second name"
        elif not (at == 0 and isinstance(node, ast.Expr) and isinstance(node.value, ast.Constant)):
            yield node.lineno, "L3: a statement at module level"
    for name in sorted(set(bound)):
        if bound.count(name) > 1:
            yield 1, f"L15: {name} is bound twice"
    defaults = [one for node in ast.walk(package.trees[path]) if isinstance(node, ast.arguments)
                for one in node.defaults + node.kw_defaults]
    for one in defaults:
        if not isinstance(one, ast.Constant):
            yield one.lineno, "L4: a default value"


def bindings(package, path):
    """L8, L12, L15: which names are bound, and which are read."""
    tree = package.trees[path]
    fixed = set(package.classes)
    for node in tree.body:
        if isinstance(node, ast.ImportFrom):
            fixed.update([name.name for name in node.names])
    known = set(defined_in(tree)) | fixed
    for top in tree.body:
        local = {node.id for node in ast.walk(top) if isinstance(node, ast.Name) and isinstance(node.ctx, ast.Store)}
        local |= {node.arg for node in ast.walk(top) if isinstance(node, ast.arg)}
        for node in ast.walk(top):
            name = getattr(node, "id", getattr(node, "arg", getattr(node, "name", None)))
            if not isinstance(node, (ast.Name, ast.arg, ast.FunctionDef, ast.ClassDef)):
                continue
            if isinstance(node, ast.Name) and isinstance(node.ctx, ast.Load):
                if name not in local | known | BUILTINS or name == "_":
                    yield node.lineno, f"L8: {name} is read"
                continue
            if not re.fullmatch(r"_?[A-Za-z][A-Za-z0-9_]*|_|__init__|__eq__|__str__", name) or name.startswith("_wall"):
                yield node.lineno, f"L12: {name}"
            if is_builtin(name) or name in BARRED:
                yield node.lineno, f"L15, L17: {name} is bound"
            if not isinstance(node, (ast.FunctionDef, ast.ClassDef)) and name in fixed:
                yield node.lineno, f"L15: {name} is imported, or a class"


def calls(package, path):
    """L22, L23, L25: how functions and methods are called."""
    parents = parents_of(package.trees[path])
    for node in ast.walk(package.trees[path]):
        if isinstance(node, ast.Attribute) and isinstance(node.ctx, ast.Load):
            called = isinstance(parents[node], ast.Call) and parents[node].func is node
            own = set().union(*package.methods.values()) - OWN_SIGNS
            if called and node.attr not in METHODS | own:
                yield node.lineno, f"L25: .{node.attr}"
            if not called and node.attr not in set().union(*package.attributes.values()):
                yield node.lineno, f"L18: .{node.attr} is assigned by no class"
        if not isinstance(node, ast.Call):
            continue
        if node.keywords:
            yield node.lineno, "L22: a keyword"
        if not isinstance(node.func, ast.Name):
            continue
        name, stars = node.func.id, [one for one in node.args if isinstance(one, ast.Starred)]
        if stars and name != "zip":
            yield node.lineno, "L7: a star"
        if any(not isinstance(one.value, (ast.Name, ast.BinOp, ast.Call)) for one in stars):
            yield node.lineno, "L7: what is starred"
        if name in package.functions and name in defined_names(package, path) and not stars:
            if len(node.args) not in package.functions[name]:
                yield node.lineno, f"L22: {name} takes another number"
        if name in package.methods and len(node.args) != package.methods[name].get("__init__", len(node.args)):
            yield node.lineno, f"L22: {name} takes another number"
        if name in ON_THE_SPOT and name not in defined_in(package.trees[path]) and not is_iterated(parents, node):
            yield node.lineno, f"L23: {name} is not iterated on the spot"


def defined_names(package, path):
    found = defined_in(package.trees[path])
    for node in package.trees[path].body:
        if isinstance(node, ast.ImportFrom):
            found.extend([name.name for name in node.names])
    return found


def is_iterated(parents, node):
    above = parents[node]
    if isinstance(above, (ast.comprehension, ast.For)):
        return above.iter is node
    if isinstance(above, ast.Call) and isinstance(above.func, ast.Name):
        inner = node.func.id == "range" and above.func.id in ("combinations", "permutations", "product")
        return inner or (above.func.id in ITERATING and above.args[0] is node)
    return False


def words(package, path):
    """L17, L27: words that do not occur."""
    tree = package.trees[path]
    docs = {node.body[0].value for node in ast.walk(tree) if isinstance(node, (ast.Module, ast.ClassDef, ast.FunctionDef))
            and node.body and isinstance(node.body[0], ast.Expr) and isinstance(node.body[0].value, ast.Constant)}
    for node in ast.walk(tree):
        if isinstance(node, ast.Constant) and isinstance(node.value, str) and node not in docs:
            if "%" in node.value:
                yield node.lineno, "L27: a percent sign"
            if set(re.findall(r"\w+", node.value)) & BARRED:
                yield node.lineno, "L17: a word in a string"
            if node.value.startswith("__") or node.value.endswith(("._", ".__")):
                yield node.lineno, "L27: underscores"
        if isinstance(node, (ast.Name, ast.Attribute)) and getattr(node, "id", getattr(node, "attr", "")) in BARRED:
            yield node.lineno, "L17: a name"
    if "_wall" in package.texts[path] or "_WallAttr" in package.texts[path]:
        yield 1, "L12: a word"


def numbers(package, path):
    for node in ast.walk(package.trees[path]):
        if isinstance(node, ast.Constant) and isinstance(node.value, (float, complex, bytes)):
            yield node.lineno, "L7: a float or bytes"
        if isinstance(node, ast.BinOp) and isinstance(node.op, ast.Pow):
            right = node.right
            if not isinstance(right, ast.Constant) or not isinstance(right.value, int) or not 0 <= right.value <= 64:
                yield node.lineno, "L27: an exponent"


def errors(package, path):
    """L18, L19, L22: which errors there are, and how they are raised."""
    lets = {"ValueError", "IndexError", "KeyError", "OverflowError", "LookupError", "ArithmeticError"} | set(package.classes)
    for node in ast.walk(package.trees[path]):
        if isinstance(node, ast.ClassDef) and "errors" in path:
            if [base.id for base in node.bases if isinstance(base, ast.Name) and base.id in lets] == []:
                yield node.lineno, "L18: the base"
        if not isinstance(node, ast.Raise):
            continue
        made = node.exc
        if node.cause or not isinstance(made, ast.Call) or not isinstance(made.func, ast.Name):
            yield node.lineno, "L19: what is raised"
        elif made.func.id not in package.classes or len(made.args) != 1:
            yield node.lineno, "L19: the error"
        elif not any(isinstance(one, ast.FunctionDef) for one in package.classes[made.func.id].body):
            if not isinstance(made.args[0], ast.Constant) or not isinstance(made.args[0].value, str):
                yield node.lineno, "L22: an error without __init__ takes strings"


def sets(package, path):
    """L13, L24: sets, here only in sorted(set(..)) and len(set(..))."""
    parents = parents_of(package.trees[path])
    for node in ast.walk(package.trees[path]):
        if isinstance(node, (ast.Set, ast.SetComp)):
            yield node.lineno, "L24: a set"
        if isinstance(node, ast.Call) and isinstance(node.func, ast.Name) and node.func.id == "set":
            above = parents[node]
            if not (isinstance(above, ast.Call) and isinstance(above.func, ast.Name) and above.func.id in ("sorted", "len")):
                yield node.lineno, "L24: a set"


CHECKS = (names_of_files, lines, syntax, classes, imports, module_level, bindings, calls, words, numbers, errors, sets)


def read_package(top):
    files, _ = package_files(top)
    texts = {}
    for path in files:
        with open(os.path.join(top, path), encoding="utf-8", newline="") as file:
            texts[path] = file.read()
    return Package(texts)
