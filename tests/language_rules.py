"""Finds code outside of LANGUAGE.md: those of its rules that can be seen from the syntax tree.

Not seen here, or only in part, and left to the reader: L4, L5, L11, L13, L15 to L19, L21 to L23,
L26, L28.
"""

import ast
import builtins
import re

PACKAGE = "formsmith"

OWN_NAMES = set(
    "len range enumerate zip min max sum abs sorted reversed int str bool list tuple dict set frozenset "
    "isinstance ord repr any all divmod Exception ValueError TypeError KeyError IndexError LookupError "
    "ZeroDivisionError ArithmeticError OverflowError RuntimeError NotImplementedError AttributeError "
    "StopIteration".split()
)
OWN_METHODS = set(
    "append clear copy count endswith extend find get index insert isalnum isalpha isdigit islower isspace "
    "isupper items join keys ljust lower lstrip partition pop remove replace reverse rfind rjust rpartition "
    "rsplit rstrip setdefault split splitlines startswith strip update upper values zfill bit_length".split()
)
DUNDERS = set("__init__ __eq__ __repr__ __str__ __len__".split())
BANNED_NAMES = set("register mro elements open input version_info with_traceback add_note format format_map".split())
BANNED_WORDS = re.compile(
    r"\b(type|typing|typing_extensions|enum|Enum|IntEnum|StrEnum|Flag|IntFlag|Generic|Protocol|ABC|ABCMeta"
    r"|namedtuple|NamedTuple|TypedDict|TYPE_CHECKING|abstractmethod)\b|dataclass|overload|contextmanager"
)
BANNED_FILES = re.compile(r"(test|tests|testing|test_.*|site|conftest|sitecustomize|usercustomize)\.py")
ESCAPE = re.compile(r"\\(?![nt\\'\"])")

STATEMENTS = (
    ast.Assign, ast.AugAssign, ast.If, ast.While, ast.For, ast.Return, ast.Break, ast.Continue, ast.Pass,
    ast.Raise, ast.Try, ast.Expr, ast.FunctionDef, ast.ClassDef, ast.ImportFrom,
)
EXPRESSIONS = (
    ast.Constant, ast.List, ast.Tuple, ast.Dict, ast.Set, ast.BinOp, ast.UnaryOp, ast.BoolOp, ast.Compare,
    ast.IfExp, ast.Call, ast.Attribute, ast.Subscript, ast.Slice, ast.ListComp, ast.JoinedStr,
    ast.FormattedValue, ast.Name, ast.Lambda,
)
ISINSTANCE_OWN = set("int str bool list tuple dict".split())
KEYWORDS = {
    "sorted": ("key", "reverse"), "min": ("key", "default"), "max": ("key", "default"), "sum": ("start",),
    "enumerate": ("start",), "zip": ("strict",),
}
WALKED = set("zip enumerate reversed range items keys values".split())
WALKERS = set("list tuple dict sorted sum any all enumerate zip min max join".split())
PYTHONS_OWN = {name for kind in (str, int, list, tuple, dict, set, bytes) for name in dir(kind)}
FREE_METHODS = OWN_METHODS | {"add", "discard"}
FREE_VALUES = set("count index title find get join lower upper split strip copy add".split())


def problems(sources):
    """All problems of a dict of file names and their texts, as tuples (file, line, rule)."""
    found = []
    methods = {name for text in sources.values() for name in method_names(ast.parse(text))}
    values = {name for text in sources.values() for name in value_names(ast.parse(text))}
    for name, text in sources.items():
        tree = ast.parse(text)
        rows = file_problems(name, text) + top_problems(tree, sources) + tree_problems(tree, methods)
        for line, rule in rows + around_problems(tree) + class_problems(tree, methods, values):
            found.append((name, line, rule))
    return sorted(found) + cycle_problems(sources)


def value_names(tree):
    return [node.attr for node in ast.walk(tree) if isinstance(node, ast.Attribute) and isinstance(node.ctx, ast.Store)]


def class_problems(tree, methods, values):
    """Methods and values of objects that are called as they may not be."""
    own, stored = set(method_names(tree)) - DUNDERS, set(value_names(tree))
    found = [(1, "L18") for name in (own | stored) & methods & values]
    found += [(1, "L26") for name in own if name in PYTHONS_OWN - FREE_METHODS]
    return found + [(1, "L26") for name in stored if name in PYTHONS_OWN - FREE_VALUES]


def around_problems(tree):
    """What hangs on where something stands."""
    found = []
    for parent in ast.walk(tree):
        for node in ast.iter_child_nodes(parent):
            line = getattr(node, "lineno", 1)
            if isinstance(node, ast.Call):
                found += [(line, rule) for rule in walk_rules(node, parent) + keyword_rules(node)]
            if isinstance(node, ast.Expr) and not isinstance(node.value, ast.Call) and parent is not tree:
                found.append((line, "L6"))
    return found


def called_name(node):
    return getattr(node.func, "id", getattr(node.func, "attr", None)) if isinstance(node, ast.Call) else None


def walk_rules(node, parent):
    name = called_name(node)
    if name in WALKED and (isinstance(node.func, ast.Name)) == (name in OWN_NAMES):
        is_walked = isinstance(parent, (ast.For, ast.comprehension)) or called_name(parent) in WALKERS
        return [] if is_walked else ["L23"]
    if name == "set":
        is_asked = isinstance(parent, (ast.Compare, ast.BinOp)) or called_name(parent) in ("sorted", "len")
        return [] if is_asked else ["L24"]
    return []


def keyword_rules(node):
    name = called_name(node)
    is_pythons = name in OWN_NAMES or isinstance(node.func, ast.Attribute) and name in OWN_METHODS
    return ["L22" for word in node.keywords if is_pythons and word.arg not in KEYWORDS.get(name, ())]


def method_names(tree):
    classes = [node for node in ast.walk(tree) if isinstance(node, ast.ClassDef)]
    return [row.name for node in classes for row in node.body if isinstance(row, ast.FunctionDef)]


def file_problems(name, text):
    found = []
    if not re.fullmatch(r"[a-z][a-z0-9_]*\.py|__init__\.py|__main__\.py", name) or BANNED_FILES.fullmatch(name):
        found.append((1, "L14"))
    if name[:-3] in dir(builtins):
        found.append((1, "L14"))
    lines = text.split("\n")
    if len(lines) > 401:
        found.append((401, "L10"))
    for number, line in enumerate(lines, start=1):
        if len(line) > 120 or "\t" in line:
            found.append((number, "L10"))
        if any(not " " <= sign <= "~" for sign in line):
            found.append((number, "L14"))
        if BANNED_WORDS.search(line):
            found.append((number, "L17"))
        if ESCAPE.search(line.replace("\\\\", "")):
            found.append((number, "L27"))
    return found


def top_problems(tree, sources):
    found, bound = [], {}
    for place, row in enumerate(tree.body):
        if isinstance(row, ast.Import):
            found.append((row.lineno, "L2"))
        elif isinstance(row, ast.ImportFrom):
            found += import_problems(row, sources)
        elif not is_top_row(row, place):
            found.append((row.lineno, "L3"))
        for name in names_bound(row):
            if name in bound:
                found.append((row.lineno, "L15"))
            bound[name] = True
    return found


def is_top_row(row, place):
    if isinstance(row, ast.Expr):
        return place == 0 and isinstance(row.value, ast.Constant) and isinstance(row.value.value, str)
    if isinstance(row, ast.Assign):
        return isinstance(row.targets[0], ast.Name) and is_plain(row.value, True)
    return isinstance(row, (ast.FunctionDef, ast.ClassDef))


def is_plain(value, may_change):
    """Whether it is a plain value; L15 lets no list or dict stand within another."""
    if isinstance(value, (ast.Constant, ast.Name)):
        return True
    if isinstance(value, ast.UnaryOp):
        return isinstance(value.operand, ast.Constant)
    if isinstance(value, ast.Tuple):
        return all(is_plain(part, False) for part in value.elts)
    if isinstance(value, ast.List):
        return may_change and all(is_plain(part, False) for part in value.elts)
    if isinstance(value, ast.Dict):
        return may_change and all(is_plain(part, False) for part in value.keys + value.values)
    return False


def import_problems(row, sources):
    package, _, module = (row.module or "").partition(".")
    if row.level or package != PACKAGE or f"{module}.py" not in sources:
        return [(row.lineno, "L2")]
    defined = defined_names(ast.parse(sources[f"{module}.py"]))
    return [(row.lineno, "L16") for alias in row.names if alias.name not in defined]


def defined_names(tree):
    return [name for row in tree.body if not isinstance(row, ast.ImportFrom) for name in names_bound(row)]


def names_bound(row):
    if isinstance(row, (ast.FunctionDef, ast.ClassDef)):
        return [row.name]
    if isinstance(row, ast.ImportFrom):
        return [alias.asname or alias.name for alias in row.names]
    if isinstance(row, ast.Assign):
        return [target.id for target in row.targets if isinstance(target, ast.Name)]
    return []


def cycle_problems(sources):
    draws = {name: drawn_from(text) for name, text in sources.items()}
    done = []
    while len(done) < len(draws):
        ready = [name for name in draws if name not in done and all(other in done for other in draws[name])]
        if not ready:
            return [(name, 1, "L16") for name in draws if name not in done]
        done += ready
    return []


def drawn_from(text):
    rows = [row for row in ast.parse(text).body if isinstance(row, ast.ImportFrom)]
    drawn = [(row.module or "").partition(".")[2] + ".py" for row in rows]
    return drawn + (["__init__.py"] if drawn else [])


def tree_problems(tree, methods):
    known = set(defined_names(tree)) | OWN_NAMES | {name for row in tree.body for name in names_bound(row)}
    fixed = {row.name for row in tree.body if isinstance(row, ast.ClassDef)} | set(dir(builtins))
    fixed |= {name for row in tree.body if isinstance(row, ast.ImportFrom) for name in names_bound(row)}
    local = {node.id for node in ast.walk(tree) if isinstance(node, ast.Name) and isinstance(node.ctx, ast.Store)}
    local |= {node.arg for node in ast.walk(tree) if isinstance(node, ast.arg)}
    local |= {node.name for node in ast.walk(tree) if isinstance(node, (ast.ExceptHandler, ast.FunctionDef))}
    found = []
    for node in ast.walk(tree):
        line = getattr(node, "lineno", 1)
        found += [(line, rule) for rule in shape_rules(node) + value_rules(node) + call_rules(node, methods)]
        found += [(line, rule) for rule in name_rules(node, known | local, fixed)]
    return found


def shape_rules(node):
    rules = []
    if isinstance(node, ast.stmt) and not isinstance(node, STATEMENTS):
        rules.append("L6")
    if isinstance(node, ast.expr) and not isinstance(node, EXPRESSIONS):
        rules.append("L7")
    if isinstance(node, (ast.For, ast.While)) and node.orelse or isinstance(node, ast.Try) and node.finalbody:
        rules.append("L6")
    if isinstance(node, ast.Assign) and len(node.targets) > 1:
        rules.append("L6")
    if isinstance(node, ast.FunctionDef):
        rules += function_rules(node)
    if isinstance(node, ast.ClassDef):
        rules += class_rules(node)
    if isinstance(node, ast.ExceptHandler):
        named = [part.id for part in ast.walk(node.type) if isinstance(part, ast.Name)] if node.type else []
        rules += [] if named and not {"Exception", "TypeError"} & set(named) else ["L19"]
    return rules


def function_rules(node):
    rules = ["L10"] if node.end_lineno - node.lineno + 1 > 40 else []
    args = node.args
    if args.vararg or args.kwarg or args.kwonlyargs or args.posonlyargs or node.decorator_list:
        rules.append("L4")
    if any(isinstance(row, ast.ImportFrom) for row in ast.walk(node)):
        rules.append("L2")
    return rules


def class_rules(node):
    rows = [row for row in node.body if not isinstance(row, (ast.FunctionDef, ast.Pass))]
    return ["L5"] if rows or node.decorator_list or node.keywords or len(node.bases) > 1 else []


def value_rules(node):
    rules = []
    if isinstance(node, ast.Constant):
        if not (node.value is None or isinstance(node.value, (int, str))):
            rules.append("L7")
        if isinstance(node.value, str) and chr(37) in node.value:
            rules.append("L27")
    if isinstance(node, ast.BinOp) and isinstance(node.op, (ast.Div, ast.MatMult)):
        rules.append("L7")
    if isinstance(node, ast.BinOp) and isinstance(node.op, ast.Pow):
        written = isinstance(node.right, ast.Constant) and node.right.value in range(65)
        rules += [] if written else ["L27"]
    if isinstance(node, ast.Compare):
        for op, right in zip(node.ops, node.comparators):
            if isinstance(op, (ast.Is, ast.IsNot)):
                single = isinstance(right, ast.Constant) and (right.value is None or isinstance(right.value, bool))
                rules += [] if single else ["L20"]
    if isinstance(node, ast.ListComp) and (len(node.generators) > 1 or len(node.generators[0].ifs) > 1):
        rules.append("L7")
    if isinstance(node, ast.FormattedValue) and not (isinstance(node.value, ast.Name) and not node.format_spec):
        rules.append("L7")
    return rules


def call_rules(node, methods):
    if not isinstance(node, ast.Call):
        return []
    if isinstance(node.func, ast.Attribute):
        name = node.func.attr
        return [] if name in OWN_METHODS or name in methods or name in DUNDERS else ["L25"]
    if isinstance(node.func, ast.Name) and node.func.id == "isinstance":
        kinds = node.args[1].elts if isinstance(node.args[1], ast.Tuple) else [node.args[1]]
        for kind in kinds:
            plain = isinstance(kind, ast.Name) and (kind.id in ISINSTANCE_OWN or kind.id not in dir(builtins))
            if not plain:
                return ["L22"]
    return []


def name_rules(node, known, fixed):
    rules = []
    if isinstance(node, ast.Name) and isinstance(node.ctx, ast.Load) and node.id not in known:
        rules.append("L8")
    bound = node.id if isinstance(node, ast.Name) and isinstance(node.ctx, ast.Store) else None
    bound = node.arg if isinstance(node, ast.arg) else bound
    if bound in fixed:
        rules.append("L15")
    spelt = bound or getattr(node, "attr", None) or getattr(node, "name", None)
    if isinstance(spelt, str):
        if spelt in BANNED_NAMES:
            rules.append("L17")
        if spelt not in DUNDERS and not re.fullmatch(r"[A-Za-z][A-Za-z0-9_]*", spelt):
            rules.append("L12")
    return rules
