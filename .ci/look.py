"""A look at the package's files: holds them to the rules L1 to L28 as far as a look can tell.

Used as `python3 .ci/look.py FOLDER`: a row for each place that is outside a rule, and exit 1 if there is one.
Where a rule says what is best, the look asks for that (no annotations, no methods with two underscores but __init__).
"""

import ast
import builtins
import os
import re
import sys

ERRORS = """Exception ValueError TypeError KeyError IndexError LookupError ZeroDivisionError ArithmeticError
OverflowError RuntimeError NotImplementedError AttributeError StopIteration""".split()
OWN_OF_PYTHON = """len range enumerate zip min max sum abs sorted reversed int str bool list tuple dict set frozenset
isinstance ord repr any all divmod""".split() + ERRORS
METHODS = """append clear copy count endswith extend find get index insert isalnum isalpha isdigit islower isspace isupper
items join keys ljust lower lstrip partition pop remove replace reverse rfind rjust rpartition rsplit rstrip setdefault
split splitlines startswith strip update upper values zfill bit_length""".split()
VALUES_LIKE_METHODS = "count index title find get join lower upper split strip copy add".split()
NOT_AS_NAMES = """attrgetter breakpoint builtins compile copyright credits delattr dir eval exec exit gc getattr globals
hasattr help id importlib license locals methodcaller os quit setattr super type vars sys __name__""".split()
NOWHERE_NAMES = "register mro elements open input version_info with_traceback add_note format format_map".split()
FRAME_NAME = re.compile(r"^(f|tb|co|gi|cr|ag)_[a-z]+$")
NOWHERE_WORDS = """type typing typing_extensions enum Enum IntEnum StrEnum Flag IntFlag Generic Protocol ABC ABCMeta
namedtuple NamedTuple TypedDict TYPE_CHECKING abstractmethod""".split()
NOWHERE_PARTS = "dataclass overload contextmanager".split()
FILE_NAMES = "test tests testing site conftest sitecustomize usercustomize".split()
KEYWORDS = {"sorted": ("key", "reverse"), "min": ("key", "default"), "max": ("key", "default"), "sum": ("start",),
            "enumerate": ("start",), "zip": ("strict",)}
KEYS = "len int str abs sum min max tuple".split()
WALKED = "zip enumerate reversed range".split()
WALKED_METHODS = "items keys values".split()
WALKERS = "list tuple dict sorted sum any all enumerate zip min max".split()
OF_PYTHONS_VALUES = {name for kind in (str, int, list, dict, set, bytes, tuple, frozenset) for name in vars(kind)}

STATEMENTS = (ast.Assign, ast.AugAssign, ast.If, ast.While, ast.For, ast.Return, ast.Break, ast.Continue, ast.Pass,
              ast.Raise, ast.Try, ast.Expr, ast.FunctionDef, ast.ClassDef, ast.ImportFrom)
EXPRESSIONS = (ast.Constant, ast.List, ast.Tuple, ast.Dict, ast.Set, ast.BinOp, ast.UnaryOp, ast.BoolOp, ast.Compare,
               ast.IfExp, ast.Call, ast.Attribute, ast.Subscript, ast.Slice, ast.ListComp, ast.JoinedStr,
               ast.FormattedValue, ast.Name, ast.Lambda)
NOT_OPERATORS = (ast.Div, ast.MatMult)


class Look:
    def __init__(self, package):
        self.package = package
        self.found = []
        self.trees = {}
        self.methods = {}
        self.values = {}

    def say(self, path, line, rule, words):
        self.found.append((path, line, rule, words))


def module_name(path):
    return path[:-len(".py")].replace("/", ".")


def look_at_file_name(look, path):
    folder, name = os.path.split(path)
    if not re.fullmatch(r"[a-z0-9_]+\.py", name):
        look.say(path, 0, "L1", "not a .py file with a plain lower-case name")
        return
    stem = name[:-len(".py")]
    taken = FILE_NAMES + NOWHERE_WORDS + dir(builtins)
    if stem in taken or stem.startswith("test_") or (stem.startswith("_") and stem not in ("__init__", "__main__")):
        look.say(path, 0, "L14", "a file may not be called so")
    if stem == "__main__" and folder != look.package:
        look.say(path, 0, "L14", "__main__.py lies at the package's top alone")


def look_at_text(look, path, text):
    lines = text.split("\n")
    if len(lines) - 1 > 400:
        look.say(path, 401, "L10", "more than 400 lines")
    for at, line in enumerate(lines, 1):
        if len(line) > 120:
            look.say(path, at, "L10", "more than 120 characters")
        if re.search(r"[^ -~]", line):
            look.say(path, at, "L14", "a sign that is not from the blank to ~")
        for word in re.findall(r"\w+", line):
            if word in NOWHERE_WORDS or any(part in word for part in NOWHERE_PARTS):
                look.say(path, at, "L17", "the word " + word)
        if re.search(r"\\[^nt\\'\"]", line):
            look.say(path, at, "L27", "an escape that is not used")


def look_at_top(look, path, tree):
    bound = []
    for at, row in enumerate(tree.body):
        if isinstance(row, ast.Expr) and at == 0 and isinstance(row.value, ast.Constant):
            continue
        if isinstance(row, ast.ImportFrom):
            look_at_import(look, path, row)
            bound.extend((row.lineno, name.asname or name.name) for name in row.names)
        elif isinstance(row, (ast.FunctionDef, ast.ClassDef)):
            bound.append((row.lineno, row.name))
        elif isinstance(row, ast.Assign) and isinstance(row.targets[0], ast.Name):
            bound.append((row.lineno, row.targets[0].id))
            functions = [other.name for other in tree.body[:at] if isinstance(other, ast.FunctionDef)]
            look_at_top_value(look, path, row.value, functions, False)
        else:
            look.say(path, row.lineno, "L3", "no such row at a file's top")
    names = [name for line, name in bound]
    for line, name in bound:
        if names.count(name) > 1:
            look.say(path, line, "L15", name + " is bound more than once")
    return names


def look_at_top_value(look, path, value, functions, within):
    if isinstance(value, (ast.List, ast.Dict)) and within:
        look.say(path, value.lineno, "L15", "a list or dict within a value of the file's top")
    if isinstance(value, (ast.List, ast.Tuple)):
        parts = value.elts
    elif isinstance(value, ast.Dict):
        parts = value.keys + value.values
    elif isinstance(value, ast.UnaryOp) and isinstance(value.op, ast.USub):
        parts = [value.operand]
    elif isinstance(value, ast.Constant) or (isinstance(value, ast.Name) and value.id in functions):
        parts = []
    else:
        parts = []
        look.say(path, value.lineno, "L3", "not a plain value")
    for part in parts:
        look_at_top_value(look, path, part, functions, True)


def look_at_import(look, path, row):
    if row.module == "__future__" and [name.name for name in row.names] == ["annotations"]:
        return
    if row.level or not (row.module or "").startswith(look.package + "."):
        look.say(path, row.lineno, "L2", "not one of the package's own modules by its full name")
        return
    if row.module.endswith("__main__") or any(name.name == "*" for name in row.names):
        look.say(path, row.lineno, "L2", "neither * nor __main__ is drawn from")
    drawn = [other for other in look.trees if module_name(other) == row.module]
    defined = [name for other in drawn for name in defined_names(look.trees[other])]
    for name in row.names:
        if name.name not in defined:
            look.say(path, row.lineno, "L16", name.name + " is not defined by the file it is drawn from")


def defined_names(tree):
    names = []
    for row in tree.body:
        if isinstance(row, (ast.FunctionDef, ast.ClassDef)):
            names.append(row.name)
        elif isinstance(row, ast.Assign):
            names.extend(target.id for target in row.targets if isinstance(target, ast.Name))
    return names


def drawn_from(look, path):
    rows = [row for row in look.trees[path].body if isinstance(row, ast.ImportFrom)]
    modules = [row.module for row in rows]
    inits = [other for other in look.trees if other.endswith("__init__.py") and modules]
    return [other for other in look.trees if module_name(other) in modules] + inits


def look_at_rings(look):
    for path in look.trees:
        reached = []
        waiting = drawn_from(look, path)
        while waiting:
            other = waiting.pop()
            if other not in reached:
                reached.append(other)
                waiting.extend(drawn_from(look, other))
        if path in reached:
            look.say(path, 1, "L16", "draws from itself in some steps")


def look_at_inits(look):
    stems = [os.path.basename(path)[:-len(".py")] for path in look.trees]
    for path, tree in look.trees.items():
        if path.endswith("__init__.py"):
            bound = defined_names(tree)
            bound.extend(name.name for row in tree.body if isinstance(row, ast.ImportFrom) for name in row.names)
            for name in bound:
                if name in stems:
                    look.say(path, 1, "L16", name + " is the name of a file")


def bound_in_functions(tree):
    found = []
    for node in ast.walk(tree):
        if isinstance(node, ast.arg):
            found.append((node.lineno, node.arg))
        elif isinstance(node, ast.ExceptHandler) and node.name:
            found.append((node.lineno, node.name))
        elif isinstance(node, ast.Name) and isinstance(node.ctx, ast.Store):
            found.append((node.lineno, node.id))
    return found


def look_at_bindings(look, path, tree, top):
    classes = [row.name for row in tree.body if isinstance(row, ast.ClassDef)]
    drawn = [name.name for row in tree.body if isinstance(row, ast.ImportFrom) for name in row.names]
    for row in tree.body:
        if isinstance(row, (ast.FunctionDef, ast.ClassDef)):
            for line, name in bound_in_functions(row):
                if name in classes + drawn + dir(builtins):
                    look.say(path, line, "L15", name + " already has a meaning")
    for name in top:
        if name in dir(builtins):
            look.say(path, 1, "L8", name + " is a name of Python's own")


def look_at_names(look, path, tree):
    known = defined_names(tree)
    for node in ast.walk(tree):
        if isinstance(node, ast.Name):
            names = [node.id]
            if node.id in dir(builtins) and node.id not in OWN_OF_PYTHON and node.id not in known:
                look.say(path, node.lineno, "L8", node.id + " is not used")
            if node.id in NOT_AS_NAMES:
                look.say(path, node.lineno, "L17", node.id + " is not used")
        elif isinstance(node, ast.Attribute):
            names = [node.attr]
        elif isinstance(node, ast.arg):
            names = [node.arg]
        elif isinstance(node, (ast.FunctionDef, ast.ClassDef)):
            names = [node.name]
        else:
            names = []
        for name in names:
            if name.startswith("_") and name != "__init__":
                look.say(path, node.lineno, "L12", name + " begins with an underscore")
            if name in NOWHERE_NAMES or FRAME_NAME.match(name):
                look.say(path, node.lineno, "L17", name + " is not used")


def look_at_function(look, path, node):
    args = node.args
    if args.vararg or args.kwarg or args.kwonlyargs or args.posonlyargs:
        look.say(path, node.lineno, "L4", "parameters that are not plain")
    for value in args.defaults:
        look_at_top_value(look, path, value, [], False)
    if isinstance(node, ast.Lambda):
        return
    if node.decorator_list:
        look.say(path, node.lineno, "L4", "a decorator")
    if node.end_lineno - node.lineno + 1 > 40:
        look.say(path, node.lineno, "L10", "more than 40 lines")
    if node.returns or any(arg.annotation for arg in args.args):
        look.say(path, node.lineno, "L21", "an annotation")
    if node.name == "__init__":
        for row in ast.walk(node):
            if isinstance(row, ast.Return) and row.value is not None:
                look.say(path, row.lineno, "L28", "__init__ gives back nothing")


def look_at_class(look, path, node):
    if node.decorator_list or node.keywords or len(node.bases) > 1:
        look.say(path, node.lineno, "L5", "not a plain class with at most one base")
    names = []
    for row in node.body:
        if isinstance(row, ast.FunctionDef):
            names.append(row.name)
        elif not isinstance(row, ast.Pass):
            look.say(path, row.lineno, "L5", "a class has methods alone")
    for name in names:
        if names.count(name) > 1:
            look.say(path, node.lineno, "L18", name + " stands twice")
        if name in OF_PYTHONS_VALUES and name not in METHODS + ["add", "discard", "__init__"]:
            look.say(path, node.lineno, "L26", name + " is no name for a method")


def look_at_statement(look, path, node, parent):
    if isinstance(node, ast.Import):
        look.say(path, node.lineno, "L2", "an import that is not from .. import ..")
    elif not isinstance(node, STATEMENTS):
        look.say(path, node.lineno, "L6", "a statement that is not used")
    if isinstance(node, (ast.For, ast.While)) and node.orelse:
        look.say(path, node.lineno, "L6", "an else behind a loop")
    if isinstance(node, ast.Try) and node.finalbody:
        look.say(path, node.lineno, "L6", "finally")
    if isinstance(node, ast.Assign) and (len(node.targets) > 1 or isinstance(node.targets[0], (ast.Tuple, ast.List))):
        look.say(path, node.lineno, "L6", "more than one target")
    if isinstance(node, ast.Expr) and not isinstance(node.value, ast.Call) and not isinstance(parent, ast.Module):
        look.say(path, node.lineno, "L6", "an expression by itself")
    if isinstance(node, ast.ImportFrom) and not isinstance(parent, ast.Module):
        look.say(path, node.lineno, "L2", "an import that is not at the top")
    if isinstance(node, ast.ClassDef) and not isinstance(parent, ast.Module):
        look.say(path, node.lineno, "L15", "a class that is not at the top")
    if isinstance(node, (ast.Assign, ast.AugAssign)):
        for target in getattr(node, "targets", None) or [node.target]:
            if isinstance(target, ast.Attribute):
                look.values[target.attr] = (path, node.lineno)


def look_at_handler(look, path, node):
    for name in node.type.elts if isinstance(node.type, ast.Tuple) else [node.type]:
        if not isinstance(name, ast.Name) or name.id in ("Exception", "TypeError"):
            look.say(path, node.lineno, "L19", "not an error class that is taken by name")


def look_at_expression(look, path, node, parent):
    if not isinstance(node, EXPRESSIONS):
        look.say(path, node.lineno, "L7", "an expression that is not used")
    if isinstance(node, ast.Constant):
        look_at_constant(look, path, node)
    elif isinstance(node, ast.BinOp):
        look_at_operator(look, path, node)
    elif isinstance(node, ast.ListComp):
        if len(node.generators) > 1 or len(node.generators[0].ifs) > 1 or node.generators[0].is_async:
            look.say(path, node.lineno, "L7", "more than one for or if")
    elif isinstance(node, ast.FormattedValue):
        if not isinstance(node.value, ast.Name) or node.conversion not in (-1, ord("r")) or node.format_spec:
            look.say(path, node.lineno, "L7", "more than a plain name in braces")
    elif isinstance(node, ast.Set):
        if len(node.elts) > 2 and not isinstance(parent, ast.Compare):
            look.say(path, node.lineno, "L13", "a set written out")
    elif isinstance(node, ast.Compare):
        sides = [node.left] + node.comparators
        constants = [side.value for side in sides if isinstance(side, ast.Constant)]
        plain = any(value is None or isinstance(value, bool) for value in constants)
        if any(isinstance(op, (ast.Is, ast.IsNot)) for op in node.ops) and not plain:
            look.say(path, node.lineno, "L20", "is without None, True or False")
    elif isinstance(node, ast.Call):
        look_at_call(look, path, node, parent)
    elif isinstance(node, ast.Attribute) and isinstance(node.ctx, ast.Load):
        called = isinstance(parent, ast.Call) and parent.func is node
        if not called and node.attr in look.methods and not isinstance(parent, ast.keyword):
            look.say(path, node.lineno, "L25", "a method that is handed on")


def look_at_constant(look, path, node):
    if node.value is not None and not isinstance(node.value, (int, str)):
        look.say(path, node.lineno, "L7", "neither a whole number nor a text")
    if isinstance(node.value, str) and "%" in node.value:
        look.say(path, node.lineno, "L27", "a percent sign within a text")


def look_at_operator(look, path, node):
    if isinstance(node.op, NOT_OPERATORS):
        look.say(path, node.lineno, "L7", "an operator that is not used")
    if isinstance(node.op, ast.Pow):
        exponent = node.right.value if isinstance(node.right, ast.Constant) else -1
        if not 0 <= exponent <= 64:
            look.say(path, node.lineno, "L27", "an exponent that is not written")


def look_at_call(look, path, node, parent):
    name = node.func.id if isinstance(node.func, ast.Name) else None
    method = node.func.attr if isinstance(node.func, ast.Attribute) else None
    for keyword in node.keywords:
        if name in OWN_OF_PYTHON and keyword.arg not in KEYWORDS.get(name, ()):
            look.say(path, node.lineno, "L22", "a keyword that is not used")
        if keyword.arg is None or method in METHODS:
            look.say(path, node.lineno, "L22", "a keyword that is not used")
    if method is not None and method not in METHODS and method not in look.methods:
        look.say(path, node.lineno, "L25", method + " is not used")
    if name in WALKED or (method in WALKED_METHODS and method not in look.methods):
        walker = isinstance(parent, ast.Call) and isinstance(parent.func, ast.Name) and parent.func.id in WALKERS
        loop = isinstance(parent, (ast.For, ast.comprehension)) and parent.iter is node
        joined = isinstance(parent, ast.Call) and getattr(parent.func, "attr", None) == "join"
        if not (walker or loop or joined):
            look.say(path, node.lineno, "L23", "not walked on the spot")
    if name in ("set", "frozenset"):
        beside = isinstance(parent, (ast.Compare, ast.BinOp))
        within = isinstance(parent, ast.Call) and getattr(parent.func, "id", None) in ("sorted", "len")
        if not (beside or within):
            look.say(path, node.lineno, "L24", "a set that is kept or walked")


def look_at_kept_names(look, path, node, parent):
    called = isinstance(parent, ast.Call) and parent.func is node
    if node.id in OWN_OF_PYTHON and node.id not in ERRORS and not called:
        as_key = isinstance(parent, ast.keyword) and parent.arg == "key" and node.id in KEYS
        asked = isinstance(parent, (ast.Call, ast.Tuple)) and node.id in "int str bool list tuple dict".split()
        if not (as_key or asked):
            look.say(path, node.lineno, "L22", node.id + " is called, not kept")


def look_at_lambdas(look, path, tree):
    seen = []
    for node in ast.walk(tree):
        if isinstance(node, ast.Lambda):
            key = (node.lineno, [arg.arg for arg in node.args.args])
            if key in seen:
                look.say(path, node.lineno, "L13", "two lambdas with the same parameters on one line")
            seen.append(key)


def look_at_nodes(look, path, parent):
    for node in ast.iter_child_nodes(parent):
        if isinstance(node, (ast.FunctionDef, ast.Lambda)):
            look_at_function(look, path, node)
        if isinstance(node, ast.ClassDef):
            look_at_class(look, path, node)
        if isinstance(node, ast.stmt):
            look_at_statement(look, path, node, parent)
        elif isinstance(node, ast.expr):
            look_at_expression(look, path, node, parent)
        elif isinstance(node, ast.ExceptHandler):
            look_at_handler(look, path, node)
        if isinstance(node, ast.Name):
            look_at_kept_names(look, path, node, parent)
        look_at_nodes(look, path, node)


def look_at_values(look):
    for name, (path, line) in look.values.items():
        if name in look.methods:
            look.say(path, line, "L18", name + " is a method and a value")
        if name in OF_PYTHONS_VALUES and name not in VALUES_LIKE_METHODS:
            look.say(path, line, "L26", name + " is no name for a value")


def look_at_sources(package, sources):
    """What is found in these files: sources has a text for each path, which begins with the package's name."""
    look = Look(package)
    for path, text in sources.items():
        look_at_file_name(look, path)
        look_at_text(look, path, text)
        if path.endswith(".py"):
            look.trees[path] = ast.parse(text)
    for folder in sorted({os.path.dirname(path) for path in sources}):
        if folder + "/__init__.py" not in sources:
            look.say(folder, 0, "L14", "no __init__.py")
    for tree in look.trees.values():
        for node in ast.walk(tree):
            if isinstance(node, ast.ClassDef):
                look.methods.update((row.name, True) for row in node.body if isinstance(row, ast.FunctionDef))
    for path, tree in look.trees.items():
        look_at_bindings(look, path, tree, look_at_top(look, path, tree))
        look_at_names(look, path, tree)
        look_at_lambdas(look, path, tree)
        look_at_nodes(look, path, tree)
    look_at_values(look)
    look_at_rings(look)
    look_at_inits(look)
    return sorted(set(look.found))


def sources_in(package):
    sources = {}
    for folder, folders, files in os.walk(package):
        # Python's own leavings; they are not committed.
        folders[:] = [name for name in folders if name != "__pycache__"]
        for name in files:
            path = os.path.join(folder, name)
            with open(path, encoding="utf-8", newline="") as file:
                sources[path.replace(os.sep, "/")] = file.read()
    return sources


def main():
    package = sys.argv[1]
    sources = sources_in(package)
    found = look_at_sources(package, sources)
    for path, line, rule, words in found:
        print(f"{path}:{line}: {rule}: {words}")
    print(f"look: {len(sources)} files, {len(found)} outside a rule")
    return 1 if found or not sources else 0


if __name__ == "__main__":
    sys.exit(main())
