"""The form of the package's files: those rules of the language that can be seen in a file."""

import ast
import builtins
import os
import re
import unittest

TOP = os.path.dirname(os.path.dirname(os.path.abspath(__file__)))
PACKAGE = "padwright"

BUILT_IN = set("""len range enumerate zip min max sum abs sorted reversed int str bool list tuple dict set frozenset
isinstance ord repr any all divmod Exception ValueError TypeError KeyError IndexError LookupError ZeroDivisionError
ArithmeticError OverflowError RuntimeError NotImplementedError AttributeError StopIteration""".split())
METHODS = set("""append clear copy count endswith extend find get index insert isalnum isalpha isdigit islower isspace
isupper items join keys ljust lower lstrip partition pop remove replace reverse rfind rjust rpartition rsplit rstrip
setdefault split splitlines startswith strip update upper values zfill bit_length""".split())
DOUBLE = {"__init__", "__eq__", "__repr__", "__str__", "__len__"}
NO_WORDS = re.compile(r"\b(type|typing|typing_extensions|enum|Enum|IntEnum|StrEnum|Flag|IntFlag|Generic|Protocol|ABC"
                      r"|ABCMeta|namedtuple|NamedTuple|TypedDict|TYPE_CHECKING|abstractmethod)\b"
                      r"|dataclass|overload|contextmanager")
NO_NAMES = set("""register mro elements open input version_info with_traceback add_note attrgetter breakpoint builtins
compile copyright credits delattr dir eval exec exit gc getattr globals hasattr help id importlib license locals
methodcaller os quit setattr super type vars sys args format format_map""".split())
NO_STATEMENTS = (ast.With, ast.Match, ast.Delete, ast.Global, ast.Nonlocal, ast.Assert, ast.Yield, ast.YieldFrom,
                 ast.Await, ast.AsyncFor, ast.AsyncFunctionDef, ast.AsyncWith, ast.TryStar)
NO_EXPRESSIONS = (ast.SetComp, ast.DictComp, ast.GeneratorExp, ast.NamedExpr, ast.Starred, ast.Div, ast.MatMult)
NO_FILES = {"test", "tests", "testing", "site", "conftest", "sitecustomize", "usercustomize"} | set(dir(builtins))


def sources():
    """The text of each file of the package, by its path within it; what is no file of Python's stands there too."""
    told = {}
    for folder, folders, files in os.walk(os.path.join(TOP, PACKAGE)):
        folders[:] = [name for name in folders if name != "__pycache__"]
        for name in files:
            path = os.path.join(folder, name)
            with open(path, encoding="utf-8", newline="") as file:
                told[os.path.relpath(path, os.path.join(TOP, PACKAGE))] = file.read()
    return told


def faults_of_text(text):
    faults = []
    rows = text.split("\n")
    if len(rows) > 401:
        faults.append("L10 file too long")
    for at, row in enumerate(rows, 1):
        if len(row) > 120:
            faults.append(f"L10 line {at} too long")
        if any(not " " <= sign <= "~" for sign in row):
            faults.append(f"L14 line {at} has another sign")
        if NO_WORDS.search(row):
            faults.append(f"L17 line {at} has a word that stands nowhere")
    return faults


def faults_of_top(tree):
    faults = []
    bound = []
    for at, node in enumerate(tree.body):
        docstring = at == 0 and isinstance(node, ast.Expr) and isinstance(node.value, ast.Constant)
        if not docstring and not isinstance(node, (ast.ImportFrom, ast.FunctionDef, ast.ClassDef, ast.Assign)):
            faults.append(f"L3 line {node.lineno}")
        if isinstance(node, (ast.FunctionDef, ast.ClassDef)):
            bound.append(node.name)
        if isinstance(node, ast.Assign):
            bound.extend(target.id for target in node.targets if isinstance(target, ast.Name))
        if isinstance(node, ast.ImportFrom):
            bound.extend(alias.asname or alias.name for alias in node.names)
    faults.extend(f"L15 {name} is bound twice" for name in set(bound) if bound.count(name) > 1)
    return faults


def faults_of_import(node):
    plain = node.level == 0 and node.module.startswith(PACKAGE + ".")
    if node.module == "__future__" or (plain and all(alias.name != "*" for alias in node.names)):
        return []
    return [f"L2 line {node.lineno}"]


def faults_of_def(node):
    faults = []
    spec = node.args
    if spec.vararg or spec.kwarg or spec.kwonlyargs or spec.posonlyargs or node.decorator_list:
        faults.append(f"L4 line {node.lineno}")
    if node.end_lineno - node.lineno + 1 > 40:
        faults.append(f"L10 line {node.lineno}: a function too long")
    if node.returns or any(arg.annotation for arg in spec.args):
        faults.append(f"L21 line {node.lineno}")
    for name in [node.name] + [arg.arg for arg in spec.args]:
        faults.extend(faults_of_name(name, node.lineno, True))
    return faults


def faults_of_name(name, line, bound):
    if name in NO_NAMES or name == "chr":
        return [f"L17 line {line}: {name}"]
    if not re.fullmatch(r"[A-Za-z][A-Za-z0-9_]*", name) and name not in DOUBLE:
        return [f"L12 line {line}: {name}"]
    if name in dir(builtins) and (bound or name not in BUILT_IN):
        return [f"L8 line {line}: {name}"]
    return []


def faults_of_expression(node):
    line = getattr(node, "lineno", 0)
    if isinstance(node, ast.Constant):
        if isinstance(node.value, (float, complex, bytes)):
            return [f"L7 line {line}"]
        if isinstance(node.value, str) and "%" in node.value:
            return [f"L27 line {line}"]
    if isinstance(node, ast.BinOp) and isinstance(node.op, ast.Pow):
        power = getattr(node.right, "value", None)
        if not isinstance(power, int) or not 0 <= power <= 64:
            return [f"L27 line {line}"]
    if isinstance(node, ast.Compare) and any(isinstance(op, (ast.Is, ast.IsNot)) for op in node.ops):
        beside = [part.value for part in [node.left] + node.comparators if isinstance(part, ast.Constant)]
        if not any(value is None or value is True or value is False for value in beside):
            return [f"L20 line {line}"]
    if isinstance(node, ast.ListComp) and (len(node.generators) > 1 or len(node.generators[0].ifs) > 1):
        return [f"L7 line {line}"]
    return []


def faults_of_statement(node):
    line = getattr(node, "lineno", 0)
    if isinstance(node, ast.Assign) and len(node.targets) > 1:
        return [f"L6 line {line}"]
    if isinstance(node, (ast.For, ast.While)) and node.orelse:
        return [f"L6 line {line}"]
    if isinstance(node, ast.Try) and node.finalbody:
        return [f"L6 line {line}"]
    if isinstance(node, ast.ExceptHandler):
        names = [part.id for part in ast.walk(node.type) if isinstance(part, ast.Name)] if node.type else []
        if not names or "Exception" in names or "TypeError" in names:
            return [f"L19 line {line}"]
    if isinstance(node, ast.ClassDef):
        plain = all(isinstance(part, (ast.FunctionDef, ast.Expr, ast.Pass)) for part in node.body)
        if node.decorator_list or len(node.bases) > 1 or node.keywords or not plain:
            return [f"L5 line {line}"]
    return []


def faults_of_node(node, own_methods):
    line = getattr(node, "lineno", 0)
    faults = faults_of_expression(node) + faults_of_statement(node)
    if isinstance(node, NO_STATEMENTS):
        faults.append(f"L6 line {line}: {node.__class__.__name__}")
    if isinstance(node, NO_EXPRESSIONS):
        faults.append(f"L7 line {line}: {node.__class__.__name__}")
    if isinstance(node, ast.Import):
        faults.append(f"L16 line {line}")
    if isinstance(node, ast.AnnAssign):
        faults.append(f"L21 line {line}")
    if isinstance(node, ast.ImportFrom):
        faults.extend(faults_of_import(node))
    if isinstance(node, ast.FunctionDef):
        faults.extend(faults_of_def(node))
    if isinstance(node, ast.Name):
        faults.extend(faults_of_name(node.id, line, isinstance(node.ctx, ast.Store)))
    if isinstance(node, ast.Attribute) and node.attr in NO_NAMES:
        faults.append(f"L17 line {line}: {node.attr}")
    if isinstance(node, ast.Call) and isinstance(node.func, ast.Attribute):
        if node.func.attr not in METHODS | DOUBLE | own_methods:
            faults.append(f"L25 line {line}: {node.func.attr}")
    return faults


def names_of_top(tree, kinds):
    """The names that classes or imports of a file bind at its top."""
    told = set()
    for node in tree.body:
        if isinstance(node, kinds):
            told.update([alias.asname or alias.name for alias in node.names]
                        if isinstance(node, ast.ImportFrom) else [node.name])
    return told


def faults_of_locals(tree):
    """L15: parameters and locals that are called like a class or an import of the file."""
    taken = names_of_top(tree, (ast.ClassDef, ast.ImportFrom))
    bound = [(node.arg, node.lineno) for node in ast.walk(tree) if isinstance(node, ast.arg)]
    bound += [(node.id, node.lineno) for node in ast.walk(tree)
              if isinstance(node, ast.Name) and isinstance(node.ctx, ast.Store)]
    return [f"L15 line {line}: {name}" for name, line in bound if name in taken]


def is_used_as_a_class(chain):
    """Whether a class that stands at the end of a row of nodes is called, a base, taken, or asked by isinstance."""
    node, above = chain[-1], chain[-2]
    if isinstance(above, ast.Tuple):
        node, above = chain[-2], chain[-3]
    if isinstance(above, ast.Attribute):
        return above.attr == "__init__" and isinstance(chain[-3], ast.Call) and chain[-3].func is above
    if isinstance(above, ast.Call):
        asked = isinstance(above.func, ast.Name) and above.func.id == "isinstance" and above.args[1] is node
        return above.func is node or asked
    return isinstance(above, (ast.ClassDef, ast.ExceptHandler, ast.Raise))


def faults_of_classes(tree, classes):
    """L18: classes that are kept, handed on or shown."""
    faults = []
    rows = [[tree]]
    while rows:
        row = rows.pop()
        node = row[-1]
        if isinstance(node, ast.Name) and node.id in classes and not is_used_as_a_class(row):
            faults.append(f"L18 line {node.lineno}: {node.id}")
        rows.extend(row + [part] for part in ast.iter_child_nodes(node))
    return faults


def methods_and_values(trees):
    """The names that are methods, and those that are values of objects, in all classes."""
    methods, values = set(), set()
    for tree in trees:
        for node in ast.walk(tree):
            if isinstance(node, ast.ClassDef):
                methods.update(part.name for part in node.body if isinstance(part, ast.FunctionDef))
            if isinstance(node, ast.Attribute) and isinstance(node.ctx, ast.Store):
                values.add(node.attr)
    return methods, values


def faults_of(text, own_methods=frozenset(), classes=frozenset()):
    """All faults that are seen in the text of one file; the classes are those of all files."""
    tree = ast.parse(text)
    faults = faults_of_text(text) + faults_of_top(tree) + faults_of_locals(tree)
    faults.extend(faults_of_classes(tree, classes | names_of_top(tree, ast.ClassDef)))
    for node in ast.walk(tree):
        faults.extend(faults_of_node(node, own_methods))
    return faults


class Package(unittest.TestCase):
    def setUp(self):
        self.sources = sources()
        self.trees = {path: ast.parse(text) for path, text in self.sources.items() if path.endswith(".py")}

    def test_names_of_files(self):
        self.assertIn("__init__.py", self.sources)
        for path in self.sources:
            if path not in ("__init__.py", "__main__.py"):
                self.assertRegex(path, r"^[a-z][a-z0-9_]*\.py$")
                self.assertNotIn(path[:-3], NO_FILES)
                self.assertFalse(path.startswith("test_"))

    def test_each_file(self):
        own_methods, values = methods_and_values(self.trees.values())
        self.assertEqual(own_methods & values, set())
        classes = {name for tree in self.trees.values() for name in names_of_top(tree, ast.ClassDef)}
        for path, text in self.sources.items():
            with self.subTest(path=path):
                self.assertEqual(faults_of(text, own_methods, classes), [])

    def drawn(self, path):
        """The names that a file draws from each other file."""
        rows = [node for node in self.trees[path].body if isinstance(node, ast.ImportFrom)]
        return [(node.module.split(".", 1)[1].replace(".", "/") + ".py", alias.name)
                for node in rows if node.module != "__future__" for alias in node.names]

    def test_names_are_drawn_from_where_they_are_defined(self):
        for path in self.trees:
            for source, name in self.drawn(path):
                defined = [getattr(node, "name", None) or node.targets[0].id for node in self.trees[source].body
                           if isinstance(node, (ast.FunctionDef, ast.ClassDef, ast.Assign))]
                self.assertIn(name, defined, path)

    def test_no_files_draw_from_one_another(self):
        left = {path: {source for source, name in self.drawn(path)} for path in self.trees}
        while left:
            free = [path for path in left if not left[path] & set(left)]
            self.assertTrue(free, f"these draw from one another: {sorted(left)}")
            for path in free:
                left.pop(path)


class Checker(unittest.TestCase):
    """The checks see what they are there to see."""

    def test_what_is_amiss_is_seen(self):
        for rule, text in (
                ("L2", "from .errors import PadError"), ("L2", "from math import gcd"), ("L16", "import math"),
                ("L3", "print(1)"), ("L4", "def f(*xs):\n    return xs"), ("L5", "class A(B, C):\n    pass"),
                ("L5", "class A:\n    x = 1"), ("L6", "x = y = 1"), ("L6", "def f(x):\n    assert x"),
                ("L7", "x = 1 / 2"), ("L7", "x = 1.5"),
                ("L8", "def f(x):\n    return round(x)"), ("L8", "def f(min):\n    return min"),
                ("L10", "x = '" + "a" * 120 + "'"), ("L10", "def f():\n" + "    pass\n" * 40),
                ("L12", "def f_(_x):\n    return 1"), ("L14", "x = '\u00e4'"), ("L14", "x = '\t'"),
                ("L15", "x = 1\nx = 2"), ("L15", "class A:\n    pass\n\n\ndef f(A):\n    return 1"),
                ("L15", "from padwright.pads import padded\n\n\ndef f():\n    padded = 1"),
                ("L18", "class A:\n    pass\n\n\ndef f():\n    return [A]"),
                ("L18", "class A:\n    pass\n\n\ndef f(x):\n    return A.g(x)"),
                ("L18", "class A:\n    pass\n\n\ndef f(x):\n    return x(A)"),
                ("L17", "# the type of it"), ("L17", "def f(x):\n    return x.args"),
                ("L19", "def f():\n    try:\n        g()\n    except Exception:\n        pass"),
                ("L20", "def f(x):\n    return x is 0"), ("L20", "def f(x, y):\n    return x is not y"),
                ("L21", "x: int = 1"),
                ("L21", "def f(x: int):\n    return x"),
                ("L25", "def f(x):\n    return x.swapcase()"), ("L27", "x = '%'"),
                ("L27", "def f(n):\n    return 2 ** n")):
            with self.subTest(rule=rule, text=text[:60]):
                self.assertTrue([fault for fault in faults_of(text) if fault.startswith(rule)])

    def test_what_is_not_amiss_is_let_be(self):
        self.assertEqual(faults_of('"""Words."""\n\nfrom padwright.errors import PadError\n\nMOST = 500\n\n\n'
                                   'def f(xs):\n    return [x % 2 for x in xs if x is not None]\n'), [])
        self.assertEqual(faults_of("class A:\n    pass\n\n\nclass B(A):\n    def __init__(self):\n"
                                   "        A.__init__(self)\n\n\ndef f(x):\n    if isinstance(x, (A, B)):\n"
                                   "        return B()\n    return isinstance(x, A)\n"), [])


if __name__ == "__main__":
    unittest.main()
