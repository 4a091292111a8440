"""What a script can see of LANGUAGE.md: `faults` tells where a file of the package breaks a rule."""

import ast
import builtins
import re

PACKAGE = "grownlines"
BUILTINS = set(
    "len range enumerate zip min max sum abs sorted reversed int str bool bytes list tuple dict set frozenset "
    "isinstance ord repr any all divmod Exception ValueError TypeError KeyError IndexError LookupError "
    "ZeroDivisionError ArithmeticError OverflowError RuntimeError NotImplementedError AttributeError StopIteration "
    "NotImplemented iter next map super property staticmethod classmethod".split())
METHODS = set(
    "append clear copy count endswith extend find get index insert isalnum isalpha isdigit islower isspace isupper "
    "items join keys ljust lower lstrip partition pop remove replace reverse rfind rjust rpartition rsplit rstrip "
    "setdefault split splitlines startswith strip update upper values zfill bit_length add discard title capitalize "
    "swapcase casefold center expandtabs removeprefix removesuffix rindex isascii isdecimal isnumeric istitle "
    "isidentifier isprintable translate encode".split())
SPECIAL = {f"__{name}__" for name in (
    "init eq repr str len enter exit call iter lt le gt ge ne add sub mul floordiv mod pow and or xor lshift rshift "
    "neg pos invert abs bool contains getitem setitem").split()}
NOWHERE = set("register mro elements open input law version_info with_traceback add_note format format_map".split())
NO_NAMES = set(
    "attrgetter breakpoint builtins compile copyright credits delattr dir eval exec exit gc getattr globals hasattr "
    "help id importlib license locals methodcaller os quit setattr type vars sys".split())
NO_WORDS = re.compile(
    r"\b(type|typing|typing_extensions|enum|Enum|IntEnum|StrEnum|Flag|IntFlag|Generic|Protocol|ABC|ABCMeta|namedtuple|"
    r"NamedTuple|TypedDict|TYPE_CHECKING|abstractmethod)\b|dataclass|overload|contextmanager")
NO_BEGINNINGS = ("_wall", "_pe_", "_dcw_", "_enum_", "_cm_", "_twin_re_", "_lay_", "_law_", "_stub_", "_sre", "_WallAttr")
FUNCTIONS = (ast.FunctionDef, ast.AsyncFunctionDef, ast.Lambda)
WHOLE = set("any all min max sum sorted".split())
ITERATING = set("list tuple dict sorted sum min max any all enumerate zip".split())
FREE = {"__init__", "__enter__", "__exit__", "__call__"}
LIBRARY = ("heapq", "math", "itertools")
CHANGING = set("append clear extend insert pop remove reverse setdefault update add discard sort".split())
PASSING = set("enumerate zip reversed".split())


def faults(path, text, package):
    """The faults of one file; `package` has the trees of all files by their paths."""
    tree = ast.parse(text)
    for node in ast.walk(tree):
        for child in ast.iter_child_nodes(node):
            child.parent = node
    found = characters_and_sizes(text, tree) + imports(path, tree, package) + module_level(tree)
    for check in (names, statements, values, calls, classes, sets, loops):
        found += check(tree)
    found += generators(tree, package)
    return [f"{path}: {fault}" for fault in found]


def characters_and_sizes(text, tree):
    found = []
    for number, line in enumerate(text.split("\n"), 1):
        if len(line) > 120:
            found.append(f"L10 {number}: a line of more than 120 characters")
        if any(not " " <= sign <= "~" for sign in line):
            found.append(f"L14 {number}: a strange character")
        if re.search(r"_wall\b|_WallAttr", line):
            found.append(f"L12 {number}: a barred word")
    if len(text.splitlines()) > 399:
        found.append("L10: a file of more than 399 lines")
    for node in ast.walk(tree):
        if isinstance(node, FUNCTIONS) and node.end_lineno - node.lineno + 1 > 40:
            found.append(f"L10 {node.lineno}: a function of more than 40 lines")
    code = "\n".join(re.sub(r"(^|\s)#.*$", "", line) for line in without_docstrings(text, tree).split("\n"))
    if NO_WORDS.search(code):
        found.append(f"L17: the word {NO_WORDS.search(code).group()}")
    if re.search(r"\(type\)|Meta|metaclass=", text):
        found.append("L17: a word that is barred beside __getitem__")
    return found


def without_docstrings(text, tree):
    lines = text.split("\n")
    for node in ast.walk(tree):
        if isinstance(node, (ast.Module, ast.ClassDef, ast.FunctionDef)) and ast.get_docstring(node) is not None:
            for number in range(node.body[0].lineno, node.body[0].end_lineno + 1):
                lines[number - 1] = ""
    return "\n".join(lines)


def imports(path, tree, package):
    found = []
    for node in ast.walk(tree):
        if isinstance(node, ast.Import):
            found.append(f"L16 {node.lineno}: an import without from")
        if not isinstance(node, ast.ImportFrom):
            continue
        if node.level or any(alias.asname or alias.name == "*" for alias in node.names) or node not in tree.body:
            found.append(f"L2 {node.lineno}: an import of a wrong form")
        elif node.module in LIBRARY:
            continue
        elif node.module.split(".")[0] != PACKAGE:
            found.append(f"L2 {node.lineno}: an import from outside")
        else:
            source = package.get(node.module.replace(".", "/") + ".py")
            known = bound(source) if source else []
            found += [f"L16 {node.lineno}: {alias.name} is not of this file" for alias in node.names
                      if alias.name not in known]
    if path in sources(path, package, ()):
        found.append("L16: files import from each other")
    return found


def sources(path, package, seen):
    """All files that a file imports, also through others."""
    reached = []
    for node in package[path].body if path in package else []:
        if isinstance(node, ast.ImportFrom) and node.module.split(".")[0] == PACKAGE:
            source = node.module.replace(".", "/") + ".py"
            reached.append(source)
            if source not in seen:
                reached += sources(source, package, (*seen, source))
    return reached


def bound(tree):
    """The names that a file binds by itself at module level."""
    found = []
    for node in tree.body:
        if isinstance(node, (ast.FunctionDef, ast.ClassDef)):
            found.append(node.name)
        if isinstance(node, ast.Assign):
            found += [target.id for target in node.targets if isinstance(target, ast.Name)]
    return found


def module_level(tree):
    found = []
    for number, node in enumerate(tree.body):
        docstring = number == 0 and isinstance(node, ast.Expr) and isinstance(node.value, ast.Constant)
        plain = isinstance(node, ast.Assign) and len(node.targets) == 1 and isinstance(node.targets[0], ast.Name)
        if not (docstring or plain or isinstance(node, (ast.ImportFrom, ast.FunctionDef, ast.ClassDef))):
            found.append(f"L3 {node.lineno}: a statement at module level")
        if plain and any(isinstance(part, (ast.Call, ast.ListComp, ast.Set)) for part in ast.walk(node.value)):
            found.append(f"L3 {node.lineno}: no plain value")
    imported = [alias.name for node in tree.body if isinstance(node, ast.ImportFrom) for alias in node.names]
    every = bound(tree) + imported
    found += [f"L15: {name} is bound twice" for name in sorted(set(every)) if every.count(name) > 1]
    taken = set(imported) | {node.name for node in ast.walk(tree) if isinstance(node, ast.ClassDef)}
    for node in ast.walk(tree):
        name = local_name(node)
        if name in taken and isinstance(node, (ast.arg, ast.Name)):
            found.append(f"L15 {node.lineno}: {name} has two meanings")
    return found


def local_name(node):
    """The name that a parameter or a variable gets here."""
    if isinstance(node, ast.arg):
        return node.arg
    if isinstance(node, ast.Name) and isinstance(node.ctx, ast.Store):
        return node.id
    return None


def names(tree):
    found = []
    for node in ast.walk(tree):
        given = local_name(node)
        if isinstance(node, (ast.FunctionDef, ast.ClassDef)):
            given = node.name
        method = isinstance(node, ast.FunctionDef) and isinstance(node.parent, ast.ClassDef)
        if given and not (method and given in SPECIAL):
            if not re.fullmatch(r"_|_?[A-Za-z][A-Za-z0-9_]*", given) or given.startswith(NO_BEGINNINGS):
                found.append(f"L12 {node.lineno}: the name {given}")
            if given in NOWHERE | NO_NAMES or not method and hasattr(builtins, given):
                found.append(f"L17 {node.lineno}: the name {given}")
        if isinstance(node, ast.Attribute) and (node.attr in NOWHERE or node.attr.startswith("__")):
            if node.attr != "__init__":
                found.append(f"L17 {node.lineno}: the attribute {node.attr}")
        if isinstance(node, ast.Name) and isinstance(node.ctx, ast.Load):
            if node.id == "_" or hasattr(builtins, node.id) and node.id not in BUILTINS:
                found.append(f"L8 {node.lineno}: the name {node.id} is used")
    return found


def statements(tree):
    found = []
    barred = (ast.Global, ast.AsyncFor, ast.AsyncWith, ast.AsyncFunctionDef, ast.Await, ast.AnnAssign)
    for node in ast.walk(tree):
        if isinstance(node, barred):
            found.append(f"L6 {node.lineno}: a statement that is not allowed")
        if isinstance(node, ast.Raise) and not (node.exc is None or isinstance(node.exc, ast.Call)):
            found.append(f"L19 {node.lineno}: an error that is not created on the spot")
        if isinstance(node, ast.ExceptHandler) and getattr(node.type, "id", "") not in caught_freely(tree):
            found.append(f"L19 {node.lineno}: a handler to look at")
        if isinstance(node, ast.AugAssign) and not isinstance(node.value, ast.Constant):
            found.append(f"L5 {node.lineno}: += of what is no literal")
        if isinstance(node, (ast.FunctionDef, ast.arg)) and (getattr(node, "returns", None)
                                                             or getattr(node, "annotation", None)):
            found.append(f"L21 {node.lineno}: an annotation")
        if isinstance(node, ast.FunctionDef):
            defaults = node.args.defaults + [default for default in node.args.kw_defaults if default]
            found += [f"L4 {node.lineno}: a default that is not plain" for default in defaults
                      if not isinstance(default, (ast.Constant, ast.Tuple, ast.UnaryOp))]
    return found


def caught_freely(tree):
    """The errors of the package that a file knows, and those of Python that are caught freely."""
    own = [alias.name for node in tree.body if isinstance(node, ast.ImportFrom) and node.module == f"{PACKAGE}.errors"
           for alias in node.names]
    return own + ["KeyError", "ZeroDivisionError"]


def values(tree):
    found = []
    for node in ast.walk(tree):
        if isinstance(node, ast.Constant):
            if isinstance(node.value, (float, complex)) or node.value is Ellipsis:
                found.append(f"L7 {node.lineno}: a value that is not allowed")
            if isinstance(node.value, str) and ("%" in node.value or re.search(r"[^\n -~]", node.value)):
                found.append(f"L27 {node.lineno}: a string with a barred sign")
        if isinstance(node, ast.BinOp) and isinstance(node.op, (ast.Div, ast.MatMult)):
            found.append(f"L7 {node.lineno}: an operator that is not allowed")
        if isinstance(node, ast.BinOp) and isinstance(node.op, ast.Pow):
            if not isinstance(node.right, ast.Constant) or not 0 <= node.right.value <= 64:
                found.append(f"L27 {node.lineno}: an exponent that is no small literal")
        if isinstance(node, ast.Compare) and any(isinstance(sign, (ast.Is, ast.IsNot)) for sign in node.ops):
            if not isinstance(node.comparators[-1], ast.Constant) or node.comparators[-1].value not in (None, True, False):
                found.append(f"L20 {node.lineno}: is beside another value")
        if isinstance(node, ast.GeneratorExp):
            call = node.parent
            if not isinstance(call, ast.Call) or getattr(call.func, "id", "join") in WHOLE:
                found.append(f"L7 {node.lineno}: a generator expression in a wrong place")
    return found


def calls(tree):
    own = {node.name for node in ast.walk(tree) if isinstance(node, ast.FunctionDef)}
    found = []
    for node in ast.walk(tree):
        if not isinstance(node, ast.Call):
            continue
        if isinstance(node.func, ast.Attribute):
            # Methods of other files are known by the interface; what is left is a method of a builtin value.
            name = node.func.attr
            if name not in METHODS and name not in own and hasattr_of_builtins(name):
                found.append(f"L25 {node.lineno}: the method {name}")
            if name in METHODS and node.keywords:
                found.append(f"L25 {node.lineno}: a keyword for {name}")
        if isinstance(node.func, ast.Name) and node.func.id in BUILTINS:
            known = {"sorted": "key reverse", "min": "key default", "max": "key default", "sum": "start",
                     "enumerate": "start", "zip": "strict"}.get(node.func.id, "").split()
            if any(keyword.arg not in known for keyword in node.keywords):
                found.append(f"L22 {node.lineno}: a keyword for {node.func.id}")
    return found


def hasattr_of_builtins(name):
    return any(hasattr(kind, name) for kind in (str, int, list, tuple, dict, set, bytes))


def classes(tree):
    found = []
    for node in ast.walk(tree):
        if not isinstance(node, ast.ClassDef):
            continue
        if node.name.startswith("_"):
            found.append(f"L12 {node.lineno}: the class {node.name}")
        methods = [part for part in node.body if isinstance(part, ast.FunctionDef)]
        given = [method.name for method in methods]
        found += [f"L5 {node.lineno}: {name} is not allowed" for name in given
                  if name.startswith("__") and name not in SPECIAL]
        found += [f"L18 {node.lineno}: {name} stands twice" for name in sorted(set(given)) if given.count(name) > 1]
        if "__getitem__" in given and "__iter__" not in given:
            found.append(f"L5 {node.lineno}: __getitem__ without __iter__")
        attributes = {part.attr for part in ast.walk(node)
                      if isinstance(part, ast.Attribute) and isinstance(part.ctx, ast.Store)}
        found += [f"L18 {node.lineno}: {name} is a method and an attribute" for name in given if name in attributes]
        found += [f"L26 {node.lineno}: the attribute {name}" for name in sorted(attributes)
                  if hasattr_of_builtins(name) and name not in ("count", "index", "title", "find", "copy", "add")]
        for method in methods:
            found += method_faults(method)
    for node in ast.walk(tree):
        decorators = getattr(node, "decorator_list", [])
        found += [f"L5 {node.lineno}: a decorator" for decorator in decorators
                  if getattr(decorator, "id", "") not in ("classmethod", "staticmethod", "property")]
    return found


def method_faults(method):
    returned = [part.value for part in ast.walk(method) if isinstance(part, ast.Return)]
    stored = [part for part in ast.walk(method) if isinstance(part, ast.Attribute) and isinstance(part.ctx, ast.Store)]
    found = []
    if method.name == "__init__" and returned:
        found.append(f"L28 {method.lineno}: __init__ returns")
    if method.name in SPECIAL - FREE and stored:
        found.append(f"L5 {method.lineno}: {method.name} changes an attribute")
    for value in returned:
        called = getattr(getattr(value, "func", None), "id", getattr(getattr(value, "func", None), "attr", ""))
        if method.name == "__len__" and called != "len":
            found.append(f"L28 {method.lineno}: __len__ returns no len")
        if method.name in ("__str__", "__repr__") and not isinstance(value, (ast.JoinedStr, ast.Constant)):
            if called not in ("str", "repr", "join"):
                found.append(f"L28 {method.lineno}: {method.name} returns no text")
    return found


def sets(tree):
    """A set stands in `sorted(..)`, in `len(..)` or behind `in`, `==` and `!=`; it is never stored here."""
    found = []
    for node in ast.walk(tree):
        made = isinstance(node, ast.Call) and getattr(node.func, "id", "") in ("set", "frozenset")
        if made or isinstance(node, (ast.Set, ast.SetComp)):
            parent = node.parent
            taken = isinstance(parent, ast.Call) and getattr(parent.func, "id", "") in ("sorted", "len")
            if not taken and not isinstance(parent, ast.Compare):
                found.append(f"L24 {node.lineno}: a set in a wrong place")
    return found


def generators(tree, package):
    """The calls of generators are iterated at once, and no other function has the name of one."""
    yielding = []
    functions = []
    for source in package.values():
        for node in ast.walk(source):
            if isinstance(node, ast.FunctionDef):
                functions.append(node.name)
                if any(isinstance(part, (ast.Yield, ast.YieldFrom)) for part in ast.walk(node)):
                    yielding.append(node.name)
    found = [f"L23: {name} is no name of a generator alone" for name in yielding if functions.count(name) > 1]
    for node in ast.walk(tree):
        if isinstance(node, ast.Call) and getattr(node.func, "id", "") in yielding:
            parent = node.parent
            taken = isinstance(parent, ast.Call) and getattr(parent.func, "id", "") in ITERATING
            looped = isinstance(parent, (ast.For, ast.comprehension)) and parent.iter is node
            if not taken and not looped and not isinstance(parent, ast.YieldFrom):
                found.append(f"L23 {node.lineno}: a generator is kept")
    return found


def loops(tree):
    """What a loop or a comprehension walks is not changed in it, under no name that a function has for it."""
    found = []
    for function in ast.walk(tree):
        if isinstance(function, ast.FunctionDef):
            same = aliases(function)
            for loop in ast.walk(function):
                if isinstance(loop, (ast.For, ast.ListComp, ast.SetComp, ast.DictComp, ast.GeneratorExp)):
                    walked = [other for name in names_walked(loop) for other in same.get(name, {name})]
                    found += [f"L23 {part.lineno}: a loop changes what it walks"
                              for part in inside(loop) if name_changed(part) in walked]
    return found


def inside(loop):
    """What is carried out again and again; a statement behind which the loop is left counts, too."""
    bodies = loop.body if isinstance(loop, ast.For) else [loop]
    return [part for body in bodies for part in ast.walk(body)]


def written(node):
    """A name, or a row of attributes of one, as it is written; None for all else."""
    return ast.unparse(node) if isinstance(node, (ast.Name, ast.Attribute)) else None


def aliases(function):
    """The dict from names to all names that one value may have in a function."""
    same = {}
    for node in ast.walk(function):
        if isinstance(node, ast.Assign) and written(node.value):
            for target in node.targets:
                if written(target):
                    names = same.get(written(target), {written(target)}) | same.get(
                        written(node.value), {written(node.value)})
                    same.update({name: names for name in names})
    return same


def names_walked(loop):
    walked = [loop.iter] if isinstance(loop, ast.For) else [part.iter for part in loop.generators]
    found = []
    while walked:
        node = walked.pop()
        if written(node):
            found.append(written(node))
        if isinstance(node, ast.IfExp):
            walked += [node.body, node.orelse]
        if isinstance(node, ast.BoolOp):
            walked += node.values
        if isinstance(node, ast.Call) and getattr(node.func, "id", "") in PASSING:
            walked += node.args
        if isinstance(node, ast.Call) and getattr(node.func, "attr", "") in ("items", "keys", "values"):
            walked.append(node.func.value)
    return found


def name_changed(node):
    """The name of what a call or an assignment changes."""
    if isinstance(node, ast.Call) and getattr(node.func, "attr", "") in CHANGING:
        return written(node.func.value)
    if isinstance(node, ast.Subscript) and isinstance(node.ctx, (ast.Store, ast.Del)):
        return written(node.value)
    return None
