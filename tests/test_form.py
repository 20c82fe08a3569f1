"""Holds the package to the form of ../shared/LANGUAGE.md, so far as a look at the code can tell it.

Each fault is a pair of a rule and a line. Not looked at: L9, L11, L13, L18, L19, L22, L26, L28. Looked at in
part: L4, L5, L14, L15, L17, L23, L24, L27. These are still to be kept by whoever writes.
"""

import ast
import builtins
import pathlib
import re
import unittest

PACKAGE = pathlib.Path(__file__).resolve().parent.parent / "sumsway"

STATEMENTS = (ast.Assign, ast.AugAssign, ast.If, ast.While, ast.For, ast.Return, ast.Break, ast.Continue,
              ast.Pass, ast.Raise, ast.Try, ast.FunctionDef, ast.ClassDef, ast.ImportFrom)
EXPRESSIONS = (ast.Constant, ast.List, ast.Tuple, ast.Dict, ast.Set, ast.BinOp, ast.UnaryOp, ast.BoolOp,
               ast.Compare, ast.IfExp, ast.Call, ast.Attribute, ast.Subscript, ast.Slice, ast.ListComp,
               ast.JoinedStr, ast.FormattedValue, ast.Name, ast.Lambda)
ERRORS = set("""Exception ValueError TypeError KeyError IndexError LookupError ZeroDivisionError ArithmeticError
    OverflowError RuntimeError NotImplementedError AttributeError StopIteration""".split())
OWN_NAMES = ERRORS | set("""len range enumerate zip min max sum abs sorted reversed int str bool list tuple dict set
    frozenset isinstance ord repr any all divmod""".split())
METHODS = set("""append clear copy count endswith extend find get index insert isalnum isalpha isdigit islower
    isspace isupper items join keys ljust lower lstrip partition pop remove replace reverse rfind rjust rpartition
    rsplit rstrip setdefault split splitlines startswith strip update upper values zfill bit_length""".split())
DUNDERS = {"__init__", "__eq__", "__repr__", "__str__", "__len__"}
NEVER_NAMES = set("""register mro elements open input version_info with_traceback add_note attrgetter breakpoint
    builtins compile copyright credits delattr dir eval exec exit gc getattr globals hasattr help id importlib
    license locals methodcaller os quit setattr super vars sys""".split())
NEVER_WORDS = set("""type typing typing_extensions enum Enum IntEnum StrEnum Flag IntFlag Generic Protocol ABC
    ABCMeta namedtuple NamedTuple TypedDict TYPE_CHECKING abstractmethod""".split())
NEVER_FILES = {"test", "tests", "testing", "site", "conftest", "sitecustomize", "usercustomize"}
ON_THE_SPOT = {"zip", "enumerate", "reversed", "range"}
WALKERS = {"list", "tuple", "dict", "sorted", "sum", "any", "all", "enumerate", "zip", "min", "max"}
BUILTIN = set(dir(builtins))


def faults_of_text(text):
    found = []
    lines = text.split("\n")
    if len(lines) > 400:
        found.append(("L10", 401))
    for number, line in enumerate(lines, 1):
        if len(line) > 120:
            found.append(("L10", number))
        if not all(" " <= sign <= "~" for sign in line):
            found.append(("L14", number))
        words = set(re.findall(r"\w+", line))
        if words & NEVER_WORDS or re.search("dataclass|overload|contextmanager", line):
            found.append(("L17", number))
    return found


def faults_of_top(tree):
    found = []
    bound = []
    for place, node in enumerate(tree.body):
        is_text = isinstance(node, ast.Expr) and isinstance(node.value, ast.Constant)
        if isinstance(node, (ast.FunctionDef, ast.ClassDef)):
            bound.append(node.name)
        elif isinstance(node, ast.ImportFrom):
            bound += [alias.asname or alias.name for alias in node.names]
        elif isinstance(node, ast.Assign) and isinstance(node.targets[0], ast.Name):
            bound.append(node.targets[0].id)
        elif not (place == 0 and is_text):
            found.append(("L3", node.lineno))
        if len(bound) != len(set(bound)):
            found.append(("L15", node.lineno))
    return found


def faults_of_statement(node, depth):
    found = []
    if isinstance(node, ast.Expr):
        if not isinstance(node.value, ast.Call) and depth > 1:
            found.append("L6")
    elif not isinstance(node, STATEMENTS):
        found.append("L6")
    if getattr(node, "finalbody", None) or isinstance(node, (ast.For, ast.While)) and node.orelse:
        found.append("L6")
    if isinstance(node, ast.Assign) and len(node.targets) != 1:
        found.append("L6")
    if isinstance(node, ast.Try) and any(handler.type is None for handler in node.handlers):
        found.append("L6")
    if isinstance(node, ast.ImportFrom):
        if depth > 1 or node.level or not (node.module or "").startswith("sumsway."):
            found.append("L2")
    if isinstance(node, ast.ClassDef):
        if depth > 1 or not all(isinstance(one, (ast.FunctionDef, ast.Pass)) for one in node.body):
            found.append("L5")
        if len(node.bases) > 1 or node.keywords or node.decorator_list:
            found.append("L5")
    if isinstance(node, ast.FunctionDef):
        given = node.args
        if given.vararg or given.kwarg or given.kwonlyargs or given.posonlyargs or node.decorator_list:
            found.append("L4")
        if node.returns or any(one.annotation for one in given.args):
            found.append("L21")
        if node.end_lineno - node.lineno + 1 > 40:
            found.append("L10")
    return found


def faults_of_expression(node):
    found = []
    if not isinstance(node, EXPRESSIONS):
        found.append("L7")
    if isinstance(node, ast.Constant):
        if not (node.value is None or isinstance(node.value, (bool, int, str))):
            found.append("L7")
        if isinstance(node.value, str) and "%" in node.value:
            found.append("L27")
    if isinstance(node, ast.ListComp) and (len(node.generators) > 1 or len(node.generators[0].ifs) > 1):
        found.append("L7")
    if isinstance(node, ast.FormattedValue) and (node.format_spec or not isinstance(node.value, ast.Name)):
        found.append("L7")
    if isinstance(node, ast.BinOp) and isinstance(node.op, (ast.Div, ast.MatMult)):
        found.append("L7")
    if isinstance(node, ast.BinOp) and isinstance(node.op, ast.Pow):
        exponent = node.right
        if not (isinstance(exponent, ast.Constant) and 0 <= exponent.value <= 64):
            found.append("L27")
    if isinstance(node, ast.Compare) and any(isinstance(op, (ast.Is, ast.IsNot)) for op in node.ops):
        if not all(isinstance(one, ast.Constant) for one in node.comparators):
            found.append("L20")
    return found


def faults_of_names(node, own_methods, taken):
    found = []
    if isinstance(node, ast.Name):
        loaded = isinstance(node.ctx, ast.Load)
        if loaded and node.id in BUILTIN and node.id not in OWN_NAMES:
            found.append("L8")
        if not loaded and (node.id in BUILTIN or node.id in taken):
            found.append("L15")
        if node.id.startswith("_"):
            found.append("L12")
        if node.id in NEVER_NAMES:
            found.append("L17")
    if isinstance(node, ast.arg):
        if node.arg in BUILTIN or node.arg in taken:
            found.append("L15")
        if node.arg.startswith("_"):
            found.append("L12")
    if isinstance(node, (ast.FunctionDef, ast.ClassDef)):
        if node.name.startswith("_") and node.name not in DUNDERS:
            found.append("L12")
        if node.name in BUILTIN | NEVER_NAMES:
            found.append("L15")
    if isinstance(node, ast.Attribute) and node.attr.startswith("_") and node.attr != "__init__":
        found.append("L8")
    if isinstance(node, ast.Call) and isinstance(node.func, ast.Attribute):
        if node.func.attr not in METHODS | own_methods | {"__init__"}:
            found.append("L25")
    return found


def called(node):
    return node.func.id if isinstance(node, ast.Call) and isinstance(node.func, ast.Name) else None


def faults_of_walks(node, parent):
    found = []
    if called(node) in ON_THE_SPOT:
        walked = isinstance(parent, (ast.For, ast.comprehension)) and parent.iter is node
        handed = called(parent) in WALKERS and node in parent.args
        if not walked and not handed:
            found.append("L23")
    if called(node) in ("set", "frozenset") or isinstance(node, ast.Set):
        beside = isinstance(parent, (ast.Compare, ast.BinOp))
        if not beside and called(parent) not in ("sorted", "len"):
            found.append("L24")
    return found


def faults_of_code(text):
    tree = ast.parse(text)
    classes = [node for node in tree.body if isinstance(node, ast.ClassDef)]
    own_methods = {one.name for node in classes for one in node.body if isinstance(one, ast.FunctionDef)}
    imports = [alias for node in tree.body if isinstance(node, ast.ImportFrom) for alias in node.names]
    taken = {node.name for node in classes} | {alias.asname or alias.name for alias in imports}
    found = faults_of_text(text) + faults_of_top(tree)

    def look(node, parent, depth):
        rules = faults_of_names(node, own_methods, taken) + faults_of_walks(node, parent)
        if isinstance(node, ast.stmt):
            rules += faults_of_statement(node, depth)
        if isinstance(node, ast.expr):
            rules += faults_of_expression(node)
        found.extend((rule, node.lineno) for rule in rules)
        for child in ast.iter_child_nodes(node):
            look(child, node, depth + 1)

    look(tree, None, 0)
    return found


def drawn_from(tree):
    return {node.module for node in tree.body if isinstance(node, ast.ImportFrom)}


def defined_in(tree):
    defs = {node.name for node in tree.body if isinstance(node, (ast.FunctionDef, ast.ClassDef))}
    return defs | {node.targets[0].id for node in tree.body if isinstance(node, ast.Assign)}


class Form(unittest.TestCase):
    def setUp(self):
        self.texts = {path.stem: path.read_text(encoding="utf-8") for path in sorted(PACKAGE.glob("*.py"))}
        self.trees = {"sumsway." + name: ast.parse(text) for name, text in self.texts.items()}

    def test_files(self):
        there = [path.name for path in PACKAGE.iterdir() if path.name != "__pycache__"]
        self.assertIn("__init__.py", there)
        for name in there:
            self.assertRegex(name, r"\A(__init__|__main__|[a-z][a-z0-9_]*)\.py\Z")
            stem = name[:-3]
            self.assertFalse(stem in NEVER_FILES | NEVER_WORDS | BUILTIN or stem.startswith("test_"), name)

    def test_code(self):
        for name, text in self.texts.items():
            with self.subTest(name):
                self.assertEqual(faults_of_code(text), [])

    def test_imports_come_from_the_file_that_defines_the_name(self):
        for name, tree in self.trees.items():
            for node in tree.body:
                if isinstance(node, ast.ImportFrom):
                    self.assertLessEqual({alias.name for alias in node.names},
                                         defined_in(self.trees[node.module]), name)

    def test_no_two_files_draw_from_one_another(self):
        left = {name: drawn_from(tree) for name, tree in self.trees.items()}
        while left:
            free = [name for name, drawn in left.items() if not drawn & set(left)]
            self.assertTrue(free, left)
            for name in free:
                left.pop(name)


class TheLook(unittest.TestCase):
    """That the look finds what it is there for."""

    def test_faults_are_found(self):
        wrong = (
            ("L2", "from os.path import join"), ("L3", "print(1)"), ("L3", "import sys"),
            ("L4", "def f(*a):\n    return a"), ("L5", "class C:\n    x = 1"), ("L6", "def f():\n    del x"),
            ("L6", "def f():\n    'words'"), ("L6", "def f(a):\n    b = c = a"), ("L7", "def f(a):\n    return a / 2"),
            ("L7", "def f(a):\n    return {k for k in a}"), ("L7", "def f(a):\n    return 1.5"),
            ("L7", "def f(a):\n    return [k for b in a for k in b]"), ("L8", "def f(a):\n    return pow(a, 2)"),
            ("L10", "def f(a):\n" + "    a = 1\n" * 41), ("L10", "x = '" + "a" * 120 + "'"),
            ("L12", "def f(a):\n    _ = a"), ("L14", "x = '\u00e9'"), ("L15", "def f(set):\n    return 1"),
            ("L15", "x = 1\nx = 2"), ("L17", "x = 'a type'"), ("L20", "def f(a, b):\n    return a is b"),
            ("L21", "def f(a: int):\n    return a"),
            ("L23", "def f(a):\n    return g(range(a))"), ("L24", "def f(a):\n    return set(a)"),
            ("L25", "def f(a):\n    return a.bit_count()"), ("L27", "def f(a):\n    return 2 ** a"),
        )
        for rule, text in wrong:
            with self.subTest(text):
                self.assertIn(rule, [fault[0] for fault in faults_of_code(text)])


if __name__ == "__main__":
    unittest.main()
