"""A reading of the package's files by the rules of form that can be seen in a file by itself."""

import ast
import builtins
import re

OWN = (
    "len range enumerate zip min max sum abs sorted reversed int str bool bytes list tuple dict set frozenset "
    "isinstance ord repr any all divmod Exception ValueError TypeError KeyError IndexError LookupError "
    "ZeroDivisionError ArithmeticError OverflowError RuntimeError NotImplementedError AttributeError StopIteration"
).split()
METHODS = (
    "append clear copy count endswith extend find get index insert isalnum isalpha isdigit islower isspace isupper "
    "items join keys ljust lower lstrip partition pop remove replace reverse rfind rjust rpartition rsplit rstrip "
    "setdefault split splitlines startswith strip update upper values zfill bit_length add discard sort"
).split()
UNDERSCORED = ("__init__", "__eq__", "__repr__", "__str__", "__len__")
WORDS = (
    "type typing typing_extensions enum Enum IntEnum StrEnum Flag IntFlag Generic Protocol ABC ABCMeta namedtuple "
    "NamedTuple TypedDict TYPE_CHECKING abstractmethod"
).split()
WITHIN = ("dataclass", "overload", "contextmanager")
UNUSED = (
    "register mro elements open input version_info with_traceback add_note attrgetter breakpoint builtins compile "
    "copyright credits delattr dir eval exec exit gc getattr globals hasattr help id importlib license locals "
    "methodcaller os quit setattr super type vars sys format format_map"
).split()
NODES = (
    "Module Expr FunctionDef ClassDef Return Assign AugAssign For While If Raise Try Assert Delete ImportFrom alias "
    "Pass Break Continue arguments arg ExceptHandler keyword Call Attribute Name Constant Subscript Slice Starred "
    "List Tuple Dict Set ListComp DictComp SetComp comprehension BoolOp BinOp UnaryOp Compare IfExp Lambda "
    "JoinedStr FormattedValue And Or Not Invert UAdd USub Add Sub Mult FloorDiv Mod Pow LShift RShift BitOr BitXor "
    "BitAnd Eq NotEq Lt LtE Gt GtE Is IsNot In NotIn Load Store Del"
).split()


def faults_of_text(text):
    """Faults that are seen in the rows of a file."""
    rows = text.split("\n")
    told = ["a file of over 400 rows"] if len(rows) > 401 else []
    for at, row in enumerate(rows, 1):
        if len(row) > 120:
            told.append(f"{at}: a row of over 120 signs")
        if [sign for sign in row if not " " <= sign <= "~"]:
            told.append(f"{at}: a sign that may not stand")
        for word in re.findall(r"[A-Za-z0-9_]+", row):
            if word in WORDS or [part for part in WITHIN if part in word]:
                told.append(f"{at}: the word {word}")
    return told


def bound_names(tree):
    """All names that a file gives a value, wherever."""
    names = set()
    for node in ast.walk(tree):
        if isinstance(node, (ast.FunctionDef, ast.ClassDef)):
            names.add(node.name)
        elif isinstance(node, ast.arg):
            names.add(node.arg)
        elif isinstance(node, ast.alias):
            names.add(node.asname or node.name)
        elif isinstance(node, ast.ExceptHandler) and node.name:
            names.add(node.name)
        elif isinstance(node, ast.Name) and isinstance(node.ctx, ast.Store):
            names.add(node.id)
    return names


def own_values(tree):
    """The methods and the values that a file's classes give."""
    methods, values = set(), set()
    for node in ast.walk(tree):
        if isinstance(node, ast.ClassDef):
            methods |= {part.name for part in node.body if isinstance(part, ast.FunctionDef)}
        elif isinstance(node, ast.Attribute) and isinstance(node.ctx, ast.Store):
            values.add(node.attr)
    return methods, values


def fault_of_node(node, names, own):
    """The fault of one node, or None."""
    kind = node.__class__.__name__
    if kind not in NODES:
        return f"the form {kind}"
    if isinstance(node, ast.FunctionDef):
        if node.decorator_list or node.args.vararg or node.args.kwarg or node.args.posonlyargs:
            return "parameters that aren't plain, or a decorator"
        return "a def of over 40 rows" if node.end_lineno - node.lineno >= 40 else None
    if isinstance(node, ast.ImportFrom):
        return None if node.level == 0 and node.module.startswith("tailrooms.") else "an import from elsewhere"
    if isinstance(node, ast.Name):
        return None if node.id in names or node.id in OWN else f"the name {node.id}"
    if isinstance(node, ast.Attribute):
        return None if node.attr in own or node.attr in METHODS + list(UNDERSCORED) else f"the value {node.attr}"
    if isinstance(node, ast.Constant):
        return "a number with a point" if isinstance(node.value, (float, complex)) else None
    if isinstance(node, ast.BinOp) and isinstance(node.op, ast.Pow):
        return None if isinstance(node.right, ast.Constant) and node.right.value in range(65) else "an exponent"
    if isinstance(node, ast.Compare):
        for sign, thing in zip(node.ops, node.comparators):
            if isinstance(sign, (ast.Is, ast.IsNot)) and ast.unparse(thing) not in ("None", "True", "False"):
                return "an is beside another thing"
    return None


def faults_of_names(names, methods):
    """Faults of the names that a file gives; a method may be called like one of Python's own."""
    told = []
    for name in sorted(names):
        if name.startswith("_") and name not in UNDERSCORED:
            told.append(f"the name {name} begins with an underscore")
        if name in UNUSED or name in dir(builtins) and name not in methods:
            told.append(f"the name {name} is not to be given")
    return told


def faults_of_top(tree):
    """Faults of the rows of a file's top: what may stand there, and each name once."""
    told, seen = [], []
    for node in tree.body:
        if isinstance(node, (ast.FunctionDef, ast.ClassDef)):
            seen.append(node.name)
        elif isinstance(node, ast.ImportFrom):
            seen += [part.asname or part.name for part in node.names]
        elif isinstance(node, ast.Assign):
            seen += [target.id for target in node.targets]
        elif not (isinstance(node, ast.Expr) and isinstance(node.value, ast.Constant)):
            told.append(f"{node.lineno}: what may not stand at a file's top")
    return told + [f"the name {name} is bound twice" for name in sorted(set(seen)) if seen.count(name) > 1]


def drawn_names(tree):
    """The pairs (file, name) of all that a file draws in from the package's other files."""
    rows = [node for node in tree.body if isinstance(node, ast.ImportFrom) and node.module.startswith("tailrooms.")]
    return [(row.module.removeprefix("tailrooms."), part.name) for row in rows for part in row.names]


def faults_of_shadows(tree):
    """Parameters, locals and defs within defs that are called like a class or an import of their file."""
    taken = {name for module, name in drawn_names(tree)}
    taken |= {node.name for node in tree.body if isinstance(node, ast.ClassDef)}
    told = []
    for node in ast.walk(tree):
        if isinstance(node, (ast.FunctionDef, ast.Lambda)):
            inner = [part for part in ast.walk(node) if part is not node]
            given = bound_names(ast.Module(inner, [])) & taken
            told += [f"{node.lineno}: the name {name} of a class or an import" for name in sorted(given)]
    return told


def faults_of_draws(trees):
    """Of all files by their names: names drawn from a file that doesn't define them, and files in a ring."""
    told = []
    draws = {}
    for name, tree in trees.items():
        draws[name] = sorted({module for module, part in drawn_names(tree)})
        for module, part in drawn_names(tree):
            tops = [node for node in trees[module].body if not isinstance(node, ast.ImportFrom)]
            if part not in bound_names(ast.Module(tops, [])):
                told.append(f"{name}: {part} isn't defined in {module}")
    while draws:
        ends = [name for name in draws if not [module for module in draws[name] if module in draws]]
        if not ends:
            return told + [f"files that draw from one another: {sorted(draws)}"]
        for name in ends:
            del draws[name]
    return told


def faults_of_file(text, own):
    """All faults of a file's text; own are the methods and values of the whole package."""
    tree = ast.parse(text)
    names = bound_names(tree)
    told = faults_of_text(text) + faults_of_names(names, own_values(tree)[0]) + faults_of_top(tree)
    told += faults_of_shadows(tree)
    for node in ast.walk(tree):
        fault = fault_of_node(node, names, own)
        if fault is not None:
            told.append(f"{getattr(node, 'lineno', 0)}: {fault}")
    return told
