"""The package keeps to its small part of Python, as far as a walk over
its code can see."""

import ast
import builtins
import pathlib
import re
import unittest

PACKAGE = pathlib.Path(__file__).resolve().parent.parent / "sheetlay"

OWN_NAMES = set("""len range enumerate zip min max sum abs sorted reversed int str bool list tuple dict set
    frozenset isinstance ord repr any all divmod Exception ValueError TypeError KeyError IndexError LookupError
    ZeroDivisionError ArithmeticError OverflowError RuntimeError NotImplementedError AttributeError
    StopIteration""".split())
METHODS = set("""append clear copy count endswith extend find get index insert isalnum isalpha isdigit islower
    isspace isupper items join keys ljust lower lstrip partition pop remove replace reverse rfind rjust
    rpartition rsplit rstrip setdefault split splitlines startswith strip update upper values zfill
    bit_length""".split())
PYTHON_METHODS = {name for kind in (str, int, list, tuple, dict, set, frozenset, bytes) for name in vars(kind)}
TWO_UNDERSCORES = {"__init__", "__eq__", "__repr__", "__str__", "__len__"}
NO_VALUES = set("""items keys values pop update append clear extend insert remove reverse setdefault sort args encode
    format""".split())
LEFT_OUT_NAMES = set("""register mro elements open input version_info with_traceback add_note format format_map
    attrgetter breakpoint builtins compile copyright credits delattr dir eval exec exit gc getattr globals hasattr
    help id importlib license locals methodcaller os quit setattr super type vars sys""".split())
LEFT_OUT_WORDS = re.compile(
    r"\b(type|typing|typing_extensions|enum|Enum|IntEnum|StrEnum|Flag|IntFlag|Generic|Protocol|ABC|ABCMeta"
    r"|namedtuple|NamedTuple|TypedDict|TYPE_CHECKING|abstractmethod)\b|dataclass|overload|contextmanager"
)
NODES = (
    ast.Module, ast.FunctionDef, ast.Lambda, ast.arguments, ast.arg, ast.ClassDef, ast.ImportFrom, ast.alias,
    ast.Assign, ast.AugAssign, ast.If, ast.While, ast.For, ast.Return, ast.Break, ast.Continue, ast.Pass,
    ast.Raise, ast.Try, ast.ExceptHandler, ast.Expr, ast.Constant, ast.List, ast.Tuple, ast.Dict, ast.Set,
    ast.BinOp, ast.UnaryOp, ast.BoolOp, ast.Compare, ast.IfExp, ast.Call, ast.keyword, ast.Attribute,
    ast.Subscript, ast.Slice, ast.ListComp, ast.comprehension, ast.JoinedStr, ast.FormattedValue, ast.Name,
    ast.expr_context, ast.operator, ast.unaryop, ast.boolop, ast.cmpop,
)


def plain_value(node):
    if isinstance(node, (ast.List, ast.Tuple)):
        return all(plain_value(part) for part in node.elts)
    if isinstance(node, ast.Dict):
        return all(plain_value(part) for part in node.keys + node.values)
    if isinstance(node, ast.UnaryOp) and isinstance(node.op, ast.USub):
        return plain_value(node.operand)
    return isinstance(node, (ast.Constant, ast.Name))


def names_bound(node):
    if isinstance(node, (ast.FunctionDef, ast.ClassDef)):
        return [node.name]
    if isinstance(node, ast.arg):
        return [node.arg]
    if isinstance(node, ast.Name) and isinstance(node.ctx, ast.Store):
        return [node.id]
    if isinstance(node, ast.Attribute):
        return [node.attr]
    return [node.name] if isinstance(node, ast.ExceptHandler) and node.name else []


def node_faults(node):
    if not isinstance(node, NODES):
        yield "L6, L7: no part of the language"
    if isinstance(node, ast.Constant) and not isinstance(node.value, (int, str, type(None))):
        yield "L7: no such value"
    if isinstance(node, (ast.Div, ast.MatMult)):
        yield "L7: no such operator"
    if isinstance(node, ast.Assign) and (len(node.targets) != 1 or isinstance(node.targets[0], (ast.Tuple, ast.List))):
        yield "L6: one target"
    if isinstance(node, (ast.For, ast.While)) and node.orelse:
        yield "L6: else behind a loop"
    if isinstance(node, ast.Try) and node.finalbody:
        yield "L6: finally"
    if isinstance(node, ast.Expr) and not isinstance(node.value, (ast.Call, ast.Constant)):
        yield "L6: only a call stands by itself"
    if isinstance(node, ast.ListComp) and (len(node.generators) != 1 or len(node.generators[0].ifs) > 1):
        yield "L7: one for, at most one if"
    if isinstance(node, ast.Compare) and any(isinstance(op, (ast.Is, ast.IsNot)) for op in node.ops):
        if not isinstance(node.comparators[-1], ast.Constant):
            yield "L20: is"
    if isinstance(node, ast.BinOp) and isinstance(node.op, ast.Pow):
        if not (isinstance(node.right, ast.Constant) and 0 <= node.right.value <= 64):
            yield "L27: a written exponent of 0 to 64"
    if isinstance(node, ast.arguments) and (node.vararg or node.kwarg or node.kwonlyargs or node.posonlyargs):
        yield "L4: plain parameters"
    if isinstance(node, (ast.FunctionDef, ast.ClassDef)) and node.decorator_list:
        yield "L4, L5: decorator"
    if isinstance(node, ast.FunctionDef) and node.end_lineno - node.lineno >= 40:
        yield "L10: a function has at most 40 lines"


def name_faults(node, own_methods):
    for name in names_bound(node):
        if not re.fullmatch(r"[A-Za-z][A-Za-z0-9_]*", name) and name not in TWO_UNDERSCORES:
            yield "L12: " + name
        if name in LEFT_OUT_NAMES:
            yield "L17: " + name
        if not isinstance(node, ast.Attribute) and name in vars(builtins) and name not in TWO_UNDERSCORES:
            yield "L15: " + name
    if isinstance(node, ast.Name) and isinstance(node.ctx, ast.Load):
        if node.id in vars(builtins) and node.id not in OWN_NAMES:
            yield "L8: " + node.id
    if isinstance(node, ast.Call) and isinstance(node.func, ast.Attribute):
        name = node.func.attr
        if name in PYTHON_METHODS and name not in METHODS and name not in own_methods and name not in TWO_UNDERSCORES:
            yield "L25: " + name


def class_faults(node):
    for part in node.body:
        if not isinstance(part, (ast.FunctionDef, ast.Pass)):
            yield "L5: only methods stand in a class"
        elif isinstance(part, ast.FunctionDef) and part.name.startswith("__") and part.name not in TWO_UNDERSCORES:
            yield "L5: " + part.name
    if len(node.bases) > 1 or node.keywords:
        yield "L5: one base at most"


def top_faults(node):
    if isinstance(node, ast.ImportFrom):
        if node.level or not node.module.startswith("sheetlay.") or any(a.name == "*" or a.asname for a in node.names):
            yield "L2, L16: an import of another kind"
    elif isinstance(node, ast.Assign):
        if not plain_value(node.value):
            yield "L3: a plain value"
    elif not isinstance(node, (ast.FunctionDef, ast.ClassDef)) and not is_text(node):
        yield "L3: nothing is done at the top"


def is_text(node):
    return isinstance(node, ast.Expr) and isinstance(node.value, ast.Constant) and isinstance(node.value.value, str)


def text_faults(text):
    lines = text.split("\n")
    if len(lines) > 401:
        yield (len(lines), "L10: a file has at most 400 lines")
    for k, line in enumerate(lines, start=1):
        if len(line) > 120:
            yield (k, "L10: a line has at most 120 characters")
        if re.search(r"[^ -~]", line):
            yield (k, "L14: a sign of another kind")
        if LEFT_OUT_WORDS.search(line):
            yield (k, "L17: " + LEFT_OUT_WORDS.search(line).group())


def taken_names(tree):
    # Names that no parameter and no local of this file may have.
    drawn = [alias.name for node in tree.body if isinstance(node, ast.ImportFrom) for alias in node.names]
    return set(drawn) | {node.name for node in tree.body if isinstance(node, ast.ClassDef)}


def methods_of(tree):
    return [part for node in tree.body if isinstance(node, ast.ClassDef) for part in node.body]


def local_faults(tree):
    taken = taken_names(tree)
    methods = methods_of(tree)
    for node in ast.walk(tree):
        for name in names_bound(node):
            if name in taken and node not in methods and not isinstance(node, (ast.ClassDef, ast.Attribute)):
                yield (getattr(node, "lineno", 0), "L15: " + name)


def faults(text):
    found = list(text_faults(text))
    tree = ast.parse(text)
    found += list(local_faults(tree))
    own_methods = {node.name for node in ast.walk(tree) if isinstance(node, ast.FunctionDef)}
    for node in tree.body:
        found += [(node.lineno, fault) for fault in top_faults(node)]
    for node in ast.walk(tree):
        told = list(node_faults(node)) + list(name_faults(node, own_methods))
        if isinstance(node, ast.ClassDef):
            told += list(class_faults(node))
        found += [(getattr(node, "lineno", 0), fault) for fault in told]
    return found


def drawn_from(text):
    return [node.module.split(".")[1] for node in ast.parse(text).body if isinstance(node, ast.ImportFrom)]


class Language(unittest.TestCase):
    def files(self):
        return {path.stem: path.read_text("utf-8") for path in sorted(PACKAGE.glob("*.py"))}

    def test_only_plain_files_lie_in_the_package(self):
        for path in PACKAGE.iterdir():
            if path.name != "__pycache__":
                self.assertRegex(path.name, r"^([a-z][a-z0-9_]*|__init__|__main__)\.py$")
        self.assertIn("__init__", self.files())

    def test_each_file_keeps_to_the_rules(self):
        for name, text in self.files().items():
            with self.subTest(name):
                self.assertEqual(faults(text), [])

    def test_no_two_files_draw_from_one_another(self):
        left = {name: drawn_from(text) for name, text in self.files().items()}
        while left:
            free = [name for name in left if not any(other in left for other in left[name])]
            self.assertTrue(free, left)
            left = {name: left[name] for name in left if name not in free}

    def test_a_helper_stands_in_one_file_alone(self):
        seen = {}
        for name, text in self.files().items():
            for node in ast.parse(text).body:
                if isinstance(node, (ast.FunctionDef, ast.ClassDef)):
                    self.assertNotIn(node.name, seen, f"in {name} and {seen.get(node.name)}")
                    seen[node.name] = name

    def test_no_name_is_a_method_here_and_a_value_there(self):
        methods, values = set(), set()
        for text in self.files().values():
            for node in ast.walk(ast.parse(text)):
                if isinstance(node, ast.ClassDef):
                    methods |= {part.name for part in node.body if isinstance(part, ast.FunctionDef)}
                if isinstance(node, ast.Attribute) and isinstance(node.ctx, ast.Store):
                    values.add(node.attr)
        self.assertEqual(methods & values, set())
        self.assertEqual(values & NO_VALUES, set())

    def test_the_walk_sees_faults(self):
        for text in (
            "import math\n", "from . import spots\n", "x = f(1)\n", "def f():\n    return 1 / 2\n", "x = 1.5\n",
            "def f(*a):\n    pass\n", "def f(x):\n    del x\n", "def f():\n    a = b = 1\n", "def f(sum):\n    pass\n",
            "def f(x):\n    return map(x)\n", "def f(x):\n    x.sort()\n", "class A:\n    x = 1\n", "# a type\n",
            "def f(n):\n    return 2 ** n\n", "def f(x, y):\n    return x is y\n", "# \u00e4\n", "x = 1  " + " " * 120,
            "def f():\n" + "    pass\n" * 40, "x = 1\n" * 401, "def _f():\n    pass\n",
            "from sheetlay.spots import turn\n\n\ndef f(turn):\n    pass\n",
            "from sheetlay.spots import turn\n\n\ndef f():\n    for turn in ():\n        pass\n",
            "from sheetlay.spots import turn\n\n\ndef f():\n    def turn():\n        pass\n",
        ):
            with self.subTest(text[:40]):
                self.assertNotEqual(faults(text), [])


if __name__ == "__main__":
    unittest.main()
