# Holds the package's files to the rules L1 to L28 of the language, as far as they can be seen file by file.
import ast
import builtins
import pathlib
import re
import unittest

PACKAGE = pathlib.Path(__file__).resolve().parent.parent / "meetvalue"

ERRORS = """Exception ValueError TypeError KeyError IndexError LookupError ZeroDivisionError ArithmeticError
OverflowError RuntimeError NotImplementedError AttributeError StopIteration""".split()
OWN_NAMES = ERRORS + """len range enumerate zip min max sum abs sorted reversed int str bool list tuple dict set
isinstance ord repr any all divmod True False None""".split()
METHODS = """append clear copy count endswith extend find get index insert isalnum isalpha isdigit islower isspace
isupper items join keys ljust lower lstrip partition pop remove replace reverse rfind rjust rpartition rsplit rstrip
setdefault split splitlines startswith strip update upper values zfill bit_length""".split()
STATEMENTS = (
    ast.FunctionDef, ast.ClassDef, ast.Assign, ast.AugAssign, ast.If, ast.While, ast.For, ast.Return, ast.Break,
    ast.Continue, ast.Pass, ast.Raise, ast.Try, ast.Expr, ast.ImportFrom,
)
EXPRESSIONS = (
    ast.BoolOp, ast.BinOp, ast.UnaryOp, ast.Lambda, ast.IfExp, ast.Dict, ast.Set, ast.ListComp, ast.Compare, ast.Call,
    ast.JoinedStr, ast.FormattedValue, ast.Constant, ast.Attribute, ast.Subscript, ast.Name, ast.List, ast.Tuple,
    ast.Slice,
)
BARRED_WORDS = """type typing typing_extensions enum Enum IntEnum StrEnum Flag IntFlag Generic Protocol ABC ABCMeta
namedtuple NamedTuple TypedDict TYPE_CHECKING abstractmethod""".split()
BARRED_WITHIN = ("dataclass", "overload", "contextmanager")
BARRED_NAMES = """register mro elements open input version_info with_traceback add_note attrgetter breakpoint builtins
compile copyright credits delattr dir eval exec exit gc getattr globals hasattr help id importlib license locals
methodcaller os quit setattr super type vars sys format format_map""".split()
BARRED_FILES = "test tests testing site conftest sitecustomize usercustomize".split() + BARRED_WORDS + dir(builtins)
KEYWORDS = {
    "sorted": ("key", "reverse"), "min": ("key", "default"), "max": ("key", "default"), "sum": ("start",),
    "enumerate": ("start",), "zip": ("strict",),
}
WALKED = "zip enumerate reversed range items keys values".split()
WALKERS = "list tuple dict sorted sum any all enumerate zip min max join".split()
TWO_UNDERSCORES = "__init__ __eq__ __repr__ __str__ __len__ __all__ __version__".split()


def faults_of_text(name, text):
    lines = text.split("\n")
    if len(lines) - 1 > 400:
        yield "L10 more than 400 lines"
    for number, line in enumerate(lines, 1):
        if len(line) > 120:
            yield f"L10 line {number}"
        if re.search("[^ -~]", line):
            yield f"L14 line {number}"
    for word in BARRED_WORDS:
        if re.search(rf"\b{word}\b", text):
            yield f"L17 {word}"
    for word in BARRED_WITHIN:
        if word in text:
            yield f"L17 {word}"
    stem = name[: -len(".py")]
    if stem != "__init__" and (not re.fullmatch("[a-z][a-z0-9_]*", stem) or stem in BARRED_FILES):
        yield "L14 file name"
    if stem.startswith("test_"):
        yield "L14 file name"


def methods_of(tree):
    return [n.name for c in ast.walk(tree) if isinstance(c, ast.ClassDef) for n in c.body if hasattr(n, "name")]


def faults_of_tree(tree, own_methods):
    bound = names_bound(tree)
    for name in bound:
        if name not in TWO_UNDERSCORES and (not re.fullmatch("[A-Za-z][A-Za-z0-9_]*", name) or name in BARRED_NAMES):
            yield f"L12, L17 name {name}"
        if name in dir(builtins):
            yield f"L15 name {name}"
    top = [n.name for n in tree.body if isinstance(n, (ast.FunctionDef, ast.ClassDef))]
    top += [t.id for n in tree.body if isinstance(n, ast.Assign) for t in n.targets if isinstance(t, ast.Name)]
    top += [a.name for n in tree.body if isinstance(n, ast.ImportFrom) for a in n.names]
    if len(top) != len(set(top)):
        yield "L15 a name bound twice"
    yield from faults_of_top(tree)
    yield from faults_of_locals(tree)
    walked = walked_on_the_spot(tree)
    for node in ast.walk(tree):
        where = f"line {getattr(node, 'lineno', 0)}"
        if isinstance(node, ast.Call):
            if called(node) in WALKED and node not in walked:
                yield f"L23 {where}"
            if any(keyword.arg not in KEYWORDS.get(called(node), ()) for keyword in node.keywords):
                if called(node) in OWN_NAMES + METHODS:
                    yield f"L22 {where}"
        if isinstance(node, ast.stmt) and not isinstance(node, STATEMENTS):
            yield f"L6 {where}"
        if isinstance(node, ast.expr) and not isinstance(node, EXPRESSIONS):
            yield f"L7 {where}"
        for fault in faults_of_node(node, bound, own_methods, tree):
            yield f"{fault} {where}"


def faults_of_top(tree):
    defined = []
    for node in tree.body:
        if isinstance(node, ast.Assign):
            for part in ast.walk(node.value):
                if isinstance(part, ast.Name) and part.id not in defined:
                    yield f"L3 line {node.lineno}"
                if isinstance(part, (ast.Call, ast.BinOp, ast.ListComp, ast.Lambda, ast.Subscript, ast.Set)):
                    yield f"L3 line {node.lineno}"
                if isinstance(part, (ast.List, ast.Dict)) and part is not node.value:
                    yield f"L15 line {node.lineno}"
        elif isinstance(node, ast.FunctionDef):
            defined.append(node.name)
        elif not isinstance(node, (ast.ClassDef, ast.ImportFrom, ast.Expr)):
            yield f"L3 line {node.lineno}"


def faults_of_locals(tree):
    barred = [a.name for n in tree.body if isinstance(n, ast.ImportFrom) for a in n.names]
    barred += [n.name for n in tree.body if isinstance(n, ast.ClassDef)]
    for function in [n for n in ast.walk(tree) if isinstance(n, (ast.FunctionDef, ast.Lambda))]:
        for node in ast.walk(function):
            name = node.arg if isinstance(node, ast.arg) else node.id if isinstance(node, ast.Name) else None
            if name in barred and not isinstance(getattr(node, "ctx", None), ast.Load):
                yield f"L15 local {name}"


def called(node):
    return node.func.attr if isinstance(node.func, ast.Attribute) else getattr(node.func, "id", "")


def walked_on_the_spot(tree):
    found = []
    for node in ast.walk(tree):
        if isinstance(node, (ast.For, ast.comprehension)):
            found.append(node.iter)
        if isinstance(node, ast.Call) and called(node) in WALKERS:
            found += node.args if called(node) == "zip" else node.args[:1]
    return found


def names_bound(tree):
    names = []
    for node in ast.walk(tree):
        if isinstance(node, (ast.FunctionDef, ast.ClassDef)):
            names.append(node.name)
        if isinstance(node, ast.arg):
            names.append(node.arg)
        if isinstance(node, ast.Name) and isinstance(node.ctx, ast.Store):
            names.append(node.id)
        if isinstance(node, ast.alias):
            names.append(node.asname or node.name)
        if isinstance(node, ast.ExceptHandler) and node.name:
            names.append(node.name)
    return names


def faults_of_node(node, bound, own_methods, tree):
    if isinstance(node, ast.FunctionDef):
        if node.end_lineno - node.lineno + 1 > 40:
            yield "L10 more than 40 lines"
        if node.decorator_list or node.args.vararg or node.args.kwarg or node.args.kwonlyargs:
            yield "L4"
    if isinstance(node, ast.ClassDef) and (node.decorator_list or len(node.bases) > 1 or node not in tree.body):
        yield "L5, L15"
    if isinstance(node, (ast.For, ast.While)) and node.orelse:
        yield "L6 else behind a loop"
    if isinstance(node, ast.Try) and node.finalbody:
        yield "L6 finally"
    if isinstance(node, ast.Assign) and len(node.targets) != 1:
        yield "L6 targets"
    if isinstance(node, ast.Expr) and not isinstance(node.value, ast.Call) and node is not tree.body[0]:
        yield "L6 a value by itself"
    if isinstance(node, ast.ImportFrom):
        if node not in tree.body or node.level or not (node.module or "").startswith("meetvalue."):
            yield "L2"
        if any(alias.name == "*" for alias in node.names):
            yield "L2"
    if isinstance(node, ast.Constant):
        if not isinstance(node.value, (int, str, type(None))):
            yield "L7"
        if isinstance(node.value, str) and "%" in node.value:
            yield "L27"
    if isinstance(node, ast.FormattedValue) and (not isinstance(node.value, ast.Name) or node.format_spec):
        yield "L7 f-string"
    if isinstance(node, ast.BinOp) and isinstance(node.op, (ast.Div, ast.MatMult)):
        yield "L7"
    if isinstance(node, ast.ListComp) and (len(node.generators) > 1 or len(node.generators[0].ifs) > 1):
        yield "L7"
    if isinstance(node, ast.Name) and isinstance(node.ctx, ast.Load) and node.id not in bound + OWN_NAMES:
        yield f"L8 {node.id}"
    if isinstance(node, ast.Attribute):
        if node.attr in BARRED_NAMES or (node.attr.startswith("_") and node.attr not in TWO_UNDERSCORES):
            yield f"L17 {node.attr}"
    if isinstance(node, ast.Call) and isinstance(node.func, ast.Attribute):
        if node.func.attr not in METHODS + own_methods:
            yield f"L25 {node.func.attr}"
    if isinstance(node, ast.ExceptHandler):
        if node.type is None or (isinstance(node.type, ast.Name) and node.type.id in ("Exception", "TypeError")):
            yield "L19"
    if isinstance(node, ast.Compare):
        for op, side in zip(node.ops, node.comparators):
            if isinstance(op, (ast.Is, ast.IsNot)):
                if not (isinstance(side, ast.Constant) and side.value in (None, True, False)):
                    yield "L20"


def faults(name, text, others=()):
    own_methods = [method for other in (text, *others) for method in methods_of(ast.parse(other))]
    return list(faults_of_text(name, text)) + list(faults_of_tree(ast.parse(text), own_methods))


# The values that objects are given, by name.
def values_of(tree):
    return [n.attr for n in ast.walk(tree) if isinstance(n, ast.Attribute) and isinstance(n.ctx, ast.Store)]


def faults_of_classes(texts):
    methods = [method for text in texts for method in methods_of(ast.parse(text))]
    values = [value for text in texts for value in values_of(ast.parse(text))]
    python_has = [name for value in ("", 0, [], {}, set(), b"") for name in dir(value)]
    for value in values:
        if value in methods:
            yield f"L18 {value} is a method, too"
        if value in python_has and value not in "count index title find get join lower upper split strip copy add".split():
            yield f"L26 value {value}"
    for method in methods:
        if method in python_has and method not in METHODS + ["add", "discard"] + TWO_UNDERSCORES:
            yield f"L26 method {method}"


def drawn_from(text):
    return [n.module for n in ast.walk(ast.parse(text)) if isinstance(n, ast.ImportFrom)]


class Language(unittest.TestCase):
    def files(self):
        return sorted([path for path in PACKAGE.iterdir() if path.name != "__pycache__"])

    def test_files(self):
        self.assertIn("__init__.py", [path.name for path in self.files()])
        for path in self.files():
            with self.subTest(file=path.name):
                self.assertTrue(path.is_file() and path.suffix == ".py")

    def test_each_file(self):
        texts = [path.read_text(encoding="utf-8") for path in self.files()]
        for path, text in zip(self.files(), texts):
            with self.subTest(file=path.name):
                self.assertEqual(faults(path.name, text, texts), [])
        self.assertEqual(list(faults_of_classes(texts)), [])

    def test_names_are_drawn_from_where_they_are_defined(self):
        trees = {f"meetvalue.{path.stem}": ast.parse(path.read_text(encoding="utf-8")) for path in self.files()}
        for name, tree in trees.items():
            for node in [node for node in tree.body if isinstance(node, ast.ImportFrom)]:
                defined = [n.name for n in trees[node.module].body if isinstance(n, (ast.FunctionDef, ast.ClassDef))]
                defined += [t.id for n in trees[node.module].body if isinstance(n, ast.Assign) for t in n.targets]
                used = [n.id for n in ast.walk(tree) if isinstance(n, ast.Name)]
                for alias in node.names:
                    with self.subTest(file=name, drawn=alias.name):
                        self.assertIn(alias.name, defined)
                        self.assertIn(alias.name, used)

    def test_no_two_files_draw_from_one_another(self):
        left = {f"meetvalue.{path.stem}": drawn_from(path.read_text(encoding="utf-8")) for path in self.files()}
        while left:
            free = [name for name in left if not any(other in left for other in left[name])]
            self.assertNotEqual(free, [], f"a ring among {sorted(left)}")
            for name in free:
                del left[name]

    def test_faults_are_seen(self):
        for text in [
            "import sys\n", "from os import path\n", "from . import x\n", "X = 1.5\n", "X = 1 / 2\n", "X = '%'\n",
            "# a \u00e4\n", "# the type\n", "def f(*a):\n    pass\n", "def f(a):\n    assert a\n",
            "def f(list):\n    pass\n", "def f(a):\n    return hash(a)\n", "def f(a):\n    return a.sort()\n",
            "def f(a):\n    return a is f\n", "def f(a):\n    return [x for y in a for x in y]\n", "_x = 1\n",
            "def f(a):\n    return {x for x in a}\n", "def f(a):\n" + "    f(a)\n" * 40, "X = 1\nX = 2\n",
            "def f(a):\n    try:\n        f(a)\n    except Exception:\n        pass\n", "def f(a):\n    'a'\n    1\n",
            "X = len('a')\n", "X = {1: [2]}\n", "Y = X\n", "def f(a):\n    x = zip(a, a)\n    return list(x)\n",
            "def f(a):\n    return a.split(sep=',')\n", "def f(a):\n    return sorted(a, cmp=f)\n",
            "from meetvalue.things import at\n\n\ndef f(at):\n    pass\n",
            "class E(ValueError):\n    pass\n\n\ndef f(a):\n    E = a\n", "if 1:\n    X = 2\n",
            "def f(a):\n    return f'{a[0]}'\n", "def f(a):\n    return f'{a:3}'\n",
        ]:
            with self.subTest(text=text):
                self.assertNotEqual(faults("plain.py", text), [])
        for text in [
            "class A:\n    def __init__(self):\n        self.b = 1\n\n    def b(self):\n        pass\n",
            "class A:\n    def __init__(self):\n        self.items = 1\n", "class A:\n    def sort(self):\n        pass\n",
        ]:
            with self.subTest(text=text):
                self.assertNotEqual(list(faults_of_classes([text])), [])


if __name__ == "__main__":
    unittest.main()
