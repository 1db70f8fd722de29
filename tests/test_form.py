"""The package's files keep to the part of Python that the program is written in.

A mechanical look at the rules L1 to L28: what is easily seen in a file's own
rows, and in what the files draw from one another. What it lets by may still
break a rule (L15's lists of a file's top, L19's small tries, L23's changes in
a loop, L26 and L28 want a reader).
"""

import ast
import builtins
import os
import re
import unittest

PACKAGE = os.path.join(os.path.dirname(os.path.dirname(os.path.abspath(__file__))), "keynests")

CALLED = set(
    "len range enumerate zip min max sum abs sorted reversed int str bool list tuple dict set frozenset isinstance ord "
    "repr any all divmod".split())
ERRORS = set(
    "Exception ValueError TypeError KeyError IndexError LookupError ZeroDivisionError ArithmeticError OverflowError "
    "RuntimeError NotImplementedError AttributeError StopIteration".split())
TAKEN = {"KeyError", "ZeroDivisionError", "StopIteration", "ValueError", "LookupError", "IndexError"}
METHODS = set(
    "append clear copy count endswith extend find get index insert isalnum isalpha isdigit islower isspace isupper items "
    "join keys ljust lower lstrip partition pop remove replace reverse rfind rjust rpartition rsplit rstrip setdefault "
    "split splitlines startswith strip update upper values zfill bit_length".split())
SPECIAL = {"__init__", "__eq__", "__repr__", "__str__", "__len__"}
KEYWORDS = {"sorted": {"key", "reverse"}, "min": {"key", "default"}, "max": {"key", "default"}, "sum": {"start"},
            "enumerate": {"start"}, "zip": {"strict"}}
WALKED = {"zip", "enumerate", "reversed", "range", "items", "keys", "values"}
WALKERS = {"list", "tuple", "dict", "sorted", "sum", "any", "all", "enumerate", "zip", "min", "max"}
UNUSED = set(
    "register mro elements open input version_info with_traceback add_note attrgetter breakpoint builtins compile "
    "copyright credits delattr dir eval exec exit gc getattr globals hasattr help id importlib license locals "
    "methodcaller os quit setattr super type vars sys chr format format_map".split())
WORDS = re.compile(
    r"\b(type|typing|typing_extensions|enum|Enum|IntEnum|StrEnum|Flag|IntFlag|Generic|Protocol|ABC|ABCMeta|namedtuple"
    r"|NamedTuple|TypedDict|TYPE_CHECKING|abstractmethod)\b|dataclass|overload|contextmanager")
FILE_NAME = re.compile(r"(__init__|[a-z][a-z0-9_]*)\.py")
BAD_FILE = re.compile(r"(test|tests|testing|test_.*|site|conftest|sitecustomize|usercustomize)\.py")
PLAIN_NAME = re.compile(r"[A-Za-z][A-Za-z0-9_]*")

NODES = (
    ast.Module, ast.ImportFrom, ast.alias, ast.FunctionDef, ast.ClassDef, ast.arguments, ast.arg, ast.Lambda,
    ast.Assign, ast.AugAssign, ast.If, ast.While, ast.For, ast.Return, ast.Break, ast.Continue, ast.Pass, ast.Raise,
    ast.Try, ast.ExceptHandler, ast.Expr, ast.Call, ast.keyword, ast.Attribute, ast.Subscript, ast.Slice, ast.Name,
    ast.Constant, ast.List, ast.Tuple, ast.Dict, ast.Set, ast.ListComp, ast.comprehension, ast.BinOp, ast.UnaryOp,
    ast.BoolOp, ast.Compare, ast.IfExp, ast.JoinedStr, ast.FormattedValue, ast.expr_context, ast.boolop, ast.operator,
    ast.unaryop, ast.cmpop)


def parents_of(tree):
    parents = {}
    for node in ast.walk(tree):
        for child in ast.iter_child_nodes(node):
            parents[child] = node
    return parents


def called_name(node):
    if isinstance(node, ast.Call):
        return getattr(node.func, "id", getattr(node.func, "attr", None))
    return None


def text_faults(source):
    for number, row in enumerate(source.split("\n"), start=1):
        if len(row) > 120:
            yield "L10", number
        if not all(" " <= sign <= "~" for sign in row):
            yield "L14", number
        if WORDS.search(row):
            yield "L17", number
    if source.count("\n") > 400:
        yield "L10", 401


def top_faults(tree):
    bound = []
    for place, node in enumerate(tree.body):
        if isinstance(node, ast.ImportFrom):
            bound.extend(alias.name for alias in node.names)
        elif isinstance(node, (ast.FunctionDef, ast.ClassDef)):
            bound.append(node.name)
        elif isinstance(node, ast.Assign) and isinstance(node.targets[0], ast.Name):
            bound.append(node.targets[0].id)
        elif place != 0 or not is_text(node):
            yield "L3", node.lineno
    if len(bound) != len(set(bound)):
        yield "L15", 1


def is_text(node):
    return isinstance(node, ast.Expr) and isinstance(node.value, ast.Constant) and isinstance(node.value.value, str)


def import_faults(node):
    if node.level or not (node.module or "").startswith("keynests."):
        yield "L2"
    if any(alias.name == "*" or alias.asname for alias in node.names):
        yield "L2"


def def_faults(node):
    given = node.args
    if given.vararg or given.kwarg or given.kwonlyargs or given.posonlyargs:
        yield "L4"
    if isinstance(node, ast.FunctionDef):
        if node.decorator_list:
            yield "L4"
        if node.end_lineno - node.lineno >= 40:
            yield "L10"
        if node.returns or any(arg.annotation for arg in given.args):
            yield "L21"


def class_faults(node, parent):
    if node.decorator_list or node.keywords or len(node.bases) > 1:
        yield "L5"
    if not all(isinstance(part, (ast.FunctionDef, ast.Pass)) for part in node.body):
        yield "L5"
    if not isinstance(parent, ast.Module):
        yield "L15"


def statement_faults(node, parent):
    if isinstance(node, ast.Assign) and len(node.targets) != 1:
        yield "L6"
    if isinstance(node, (ast.For, ast.While)) and node.orelse:
        yield "L6"
    if isinstance(node, ast.Try) and node.finalbody:
        yield "L6"
    if isinstance(node, ast.Expr) and not isinstance(node.value, ast.Call):
        if not (isinstance(parent, ast.Module) and is_text(node)):
            yield "L6"
    if isinstance(node, ast.Raise) and not isinstance(node.exc, ast.Call):
        yield "L19"
    if isinstance(node, ast.ExceptHandler):
        named = node.type.elts if isinstance(node.type, ast.Tuple) else [node.type]
        names = [getattr(name, "id", None) for name in named]
        if any(name is None or (name in ERRORS and name not in TAKEN) for name in names):
            yield "L19"


def value_faults(node, parent):
    if isinstance(node, ast.Constant):
        if not isinstance(node.value, (int, str, type(None))):
            yield "L7"
        if isinstance(node.value, str) and "%" in node.value:
            yield "L27"
    if isinstance(node, ast.ListComp) and (len(node.generators) > 1 or len(node.generators[0].ifs) > 1):
        yield "L7"
    if isinstance(node, ast.FormattedValue):
        if not isinstance(node.value, ast.Name) or node.format_spec or node.conversion not in (-1, ord("r")):
            yield "L7"
    if isinstance(node, (ast.Div, ast.MatMult)):
        yield "L7"
    if isinstance(node, ast.BinOp) and isinstance(node.op, ast.Pow):
        power = getattr(node.right, "value", None)
        if not (isinstance(power, int) and 0 <= power <= 64):
            yield "L27"
    if isinstance(node, ast.Compare):
        for test, side in zip(node.ops, node.comparators):
            if isinstance(test, (ast.Is, ast.IsNot)) and not (
                    isinstance(side, ast.Constant) and side.value in (None, True, False)):
                yield "L20"


def name_faults(node, known):
    bound = None
    if isinstance(node, (ast.FunctionDef, ast.ClassDef)):
        bound = node.name
    elif isinstance(node, ast.arg):
        bound = node.arg
    elif isinstance(node, ast.Name) and isinstance(node.ctx, ast.Store):
        bound = node.id
    elif isinstance(node, ast.Attribute) and isinstance(node.ctx, ast.Store):
        bound = node.attr
    if bound is not None and bound not in SPECIAL and not PLAIN_NAME.fullmatch(bound):
        yield "L12"
    if bound is not None and not isinstance(node, (ast.FunctionDef, ast.ClassDef, ast.Attribute)):
        if bound in known or hasattr(builtins, bound):
            yield "L15"
    if isinstance(node, ast.Name):
        if node.id in UNUSED:
            yield "L17"
        elif hasattr(builtins, node.id) and node.id not in CALLED | ERRORS:
            yield "L8"
    if isinstance(node, ast.Attribute) and node.attr in UNUSED:
        yield "L17"


def call_faults(node, parent, own):
    name = called_name(node)
    if isinstance(node.func, ast.Name):
        if name in CALLED and not {word.arg for word in node.keywords} <= KEYWORDS.get(name, set()):
            yield "L22"
    elif isinstance(node.func, ast.Attribute) and name not in METHODS | SPECIAL | own:
        yield "L25"
    if name in WALKED and name not in own:
        walked = isinstance(parent, (ast.For, ast.comprehension)) and parent.iter is node
        first = isinstance(parent, ast.Call) and node in parent.args and called_name(parent) in WALKERS | {"join"}
        if not (walked or first):
            yield "L23"
    if name in ("set", "frozenset"):
        beside = isinstance(parent, (ast.Compare, ast.BinOp))
        if not beside and called_name(parent) not in ("sorted", "len"):
            yield "L24"
    if any(isinstance(arg, ast.Starred) for arg in node.args) or any(word.arg is None for word in node.keywords):
        yield "L7"


def node_faults(node, parents, known, own):
    parent = parents.get(node)
    if not isinstance(node, NODES):
        yield "L6"
    if isinstance(node, ast.ImportFrom):
        yield from import_faults(node)
    if isinstance(node, (ast.FunctionDef, ast.Lambda)):
        yield from def_faults(node)
    if isinstance(node, ast.ClassDef):
        yield from class_faults(node, parent)
    if isinstance(node, ast.Call):
        yield from call_faults(node, parent, own)
    if isinstance(node, ast.Name) and node.id in CALLED and isinstance(node.ctx, ast.Load):
        in_isinstance = called_name(parent) == "isinstance" or called_name(parents.get(parent)) == "isinstance"
        called = isinstance(parent, ast.Call) and parent.func is node
        if not (called or in_isinstance or isinstance(parent, ast.keyword)):
            yield "L22"
    yield from statement_faults(node, parent)
    yield from value_faults(node, parent)
    yield from name_faults(node, known)


def methods_of(tree):
    return {part.name for node in ast.walk(tree) if isinstance(node, ast.ClassDef)
            for part in node.body if isinstance(part, ast.FunctionDef)}


def faults(source, own=frozenset()):
    """The rules that the source breaks, each with the number of a row."""
    tree = ast.parse(source)
    known = {alias.name for node in tree.body if isinstance(node, ast.ImportFrom) for alias in node.names}
    known |= {node.name for node in tree.body if isinstance(node, ast.ClassDef)}
    parents = parents_of(tree)
    found = list(text_faults(source)) + list(top_faults(tree))
    row = 1
    for node in ast.walk(tree):
        row = getattr(node, "lineno", row)
        found.extend((rule, row) for rule in node_faults(node, parents, known, own | methods_of(tree)))
    return found


def sources():
    told = {}
    for name in sorted(os.listdir(PACKAGE)):
        if name != "__pycache__":
            with open(os.path.join(PACKAGE, name), encoding="utf-8", newline="") as file:
                told[name] = file.read()
    return told


def drawn_from(source):
    return [(node.module, [alias.name for alias in node.names])
            for node in ast.parse(source).body if isinstance(node, ast.ImportFrom)]


def defined_in(source):
    names = set()
    for node in ast.parse(source).body:
        if isinstance(node, (ast.FunctionDef, ast.ClassDef)):
            names.add(node.name)
        elif isinstance(node, ast.Assign):
            names.add(node.targets[0].id)
    return names


class PackageTest(unittest.TestCase):
    def test_files(self):
        self.assertIn("__init__.py", sources())
        for name in sources():
            self.assertTrue(FILE_NAME.fullmatch(name), name)
            self.assertFalse(BAD_FILE.fullmatch(name), name)
            self.assertFalse(name != "__init__.py" and hasattr(builtins, name[:-3]), name)
            self.assertFalse(WORDS.search(name), name)

    def test_each_file_keeps_to_the_rules(self):
        told = sources()
        own = set().union(*[methods_of(ast.parse(source)) for source in told.values()])
        for name, source in told.items():
            self.assertEqual(faults(source, own), [], name)

    def test_names_are_drawn_from_the_file_that_defines_them(self):
        told = sources()
        for name, source in told.items():
            for module, names in drawn_from(source):
                self.assertLessEqual(set(names), defined_in(told[module.split(".")[1] + ".py"]), (name, module))

    def test_no_two_files_draw_from_one_another(self):
        left = {name: {module.split(".")[1] + ".py" for module, names in drawn_from(source)}
                for name, source in sources().items()}
        while left:
            free = [name for name in left if not left[name] & set(left)]
            self.assertTrue(free, left)
            for name in free:
                left.pop(name)

    def test_no_name_is_a_method_and_a_value(self):
        methods, values = set(), set()
        for source in sources().values():
            methods |= methods_of(ast.parse(source))
            values |= {node.attr for node in ast.walk(ast.parse(source))
                       if isinstance(node, ast.Attribute) and isinstance(node.ctx, ast.Store)}
        self.assertEqual(methods & values, set())


WRONG = [
    ("import os\n", "L3"),
    ("from .rules import homes\n", "L2"),
    ("from keynests.rules import *\n", "L2"),
    ("X = 1\nX = 2\n", "L15"),
    ("print(1)\n", "L3"),
    ("def f(*xs):\n    return xs\n", "L4"),
    ("def f(x: int):\n    return x\n", "L21"),
    ("class A(ValueError):\n    x = 1\n", "L5"),
    ("def f(x):\n    a = b = x\n    return a\n", "L6"),
    ("def f(x):\n    'says what'\n    return x\n", "L6"),
    ("def f(x):\n    with x:\n        pass\n", "L6"),
    ("def f(x):\n    return x / 2\n", "L7"),
    ("def f(x):\n    return 1.5\n", "L7"),
    ("def f(x):\n    return all(y for y in x)\n", "L6"),
    ("def f(x):\n    return [y for z in x for y in z]\n", "L7"),
    ("def f(x):\n    return f'{x[0]}'\n", "L7"),
    ("def f(x):\n    return map(x, x)\n", "L8"),
    ("def f(x):\n" + "    x = x\n" * 40, "L10"),
    ("X = 1  # " + "x" * 120 + "\n", "L10"),
    ("X = 1\t\n", "L14"),
    ("def f(_):\n    return 1\n", "L12"),
    ("def f(min):\n    return 1\n", "L15"),
    ("from keynests.rules import homes\n\n\ndef f(homes):\n    return 1\n", "L15"),
    ("# a type of nest\nX = 1\n", "L17"),
    ("def f(x):\n    return getattr(x, 'y')\n", "L17"),
    ("def f(x):\n    try:\n        return x()\n    except TypeError:\n        return None\n", "L19"),
    ("def f(x):\n    try:\n        return x()\n    except:\n        return None\n", "L19"),
    ("def f(x):\n    raise x\n", "L19"),
    ("def f(x):\n    return x is f\n", "L20"),
    ("def f(x):\n    g = len\n    return g(x)\n", "L22"),
    ("def f(x):\n    ys = range(x)\n    return ys\n", "L23"),
    ("def f(x):\n    ys = set(x)\n    return ys\n", "L24"),
    ("def f(x):\n    x.sort()\n    return x\n", "L25"),
    ("def f(x):\n    return 2 ** x\n", "L27"),
    ("X = '5 %'\n", "L27"),
]


class FaultsTest(unittest.TestCase):
    def test_each_wrong_row_is_seen(self):
        for source, rule in WRONG:
            self.assertIn(rule, [told for told, row in faults(source)], source)

    def test_what_keeps_to_the_rules_is_let_by(self):
        self.assertEqual(faults(
            '"""A file."""\n\nfrom keynests.rules import homes\n\nMOST = 3\n\n\n'
            "def f(xs, most=MOST):\n    told = {}\n    for k, x in enumerate(xs):\n        told[k] = x\n"
            "    for k in sorted(set(xs)):\n        told.setdefault(k, -1)\n    if told.get(0) is None:\n"
            "        raise ValueError(f'no {xs!r}')\n    return [homes(x, k) for k, x in told.items() if x != most]\n"), [])


if __name__ == "__main__":
    unittest.main()
