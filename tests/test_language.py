"""The package keeps to its small part of Python, so far as a walk over the written code can see."""

import ast
import builtins
import pathlib
import re
import unittest

ROOT = pathlib.Path(__file__).resolve().parent.parent
PACKAGE = ROOT / "twigmap"

NODES = """
    Module FunctionDef ClassDef Return Assign AugAssign For While If Raise Try ExceptHandler ImportFrom Expr Pass Break
    Continue BoolOp BinOp UnaryOp Lambda IfExp Dict ListComp comprehension Compare Call JoinedStr FormattedValue Constant
    Attribute Subscript Name List Tuple Slice Load Store And Or Add Sub Mult FloorDiv Mod Pow LShift RShift BitOr BitXor
    BitAnd Invert Not UAdd USub Eq NotEq Lt LtE Gt GtE Is IsNot In NotIn arguments arg keyword alias
""".split()
OWN_NAMES = """
    len range enumerate zip min max sum abs sorted reversed int str bool list tuple dict set frozenset isinstance ord repr
    any all divmod Exception ValueError TypeError KeyError IndexError LookupError ZeroDivisionError ArithmeticError
    OverflowError RuntimeError NotImplementedError AttributeError StopIteration
""".split()
OWN_METHODS = """
    append clear copy count endswith extend find get index insert isalnum isalpha isdigit islower isspace isupper items
    join keys ljust lower lstrip partition pop remove replace reverse rfind rjust rpartition rsplit rstrip setdefault split
    splitlines startswith strip update upper values zfill bit_length
""".split()
PYTHONS_OWN = [name for kind in (str, int, list, tuple, dict, set, bytes) for name in dir(kind)] + ["args"]
FREE_VALUES = "count index title find get join lower upper split strip copy add".split()
FREE_METHODS = OWN_METHODS + ["add", "discard"]
DUNDERS = ["__init__", "__eq__", "__repr__", "__str__", "__len__"]
BANNED_NAMES = """
    register mro elements open input version_info with_traceback add_note attrgetter breakpoint builtins compile copyright
    credits delattr dir eval exec exit gc getattr globals hasattr help id importlib license locals methodcaller os quit
    setattr super type vars sys chr format format_map args
""".split()
BANNED_WORDS = re.compile(
    r"\b(type|typing|typing_extensions|enum|Enum|IntEnum|StrEnum|Flag|IntFlag|Generic|Protocol|ABC|ABCMeta|namedtuple"
    r"|NamedTuple|TypedDict|TYPE_CHECKING|abstractmethod)\b|dataclass|overload|contextmanager"
)
BANNED_FILES = re.compile(r"test|tests|testing|test_.*|site|conftest|sitecustomize|usercustomize")


def text_faults(source):
    if re.search(r"[^ -~\n]", source):
        yield "L14 a sign"
    lines = source.split("\n")
    if len(lines) > 401 or max(map(len, lines)) > 120:
        yield "L10 size"
    if BANNED_WORDS.search(source):
        yield "L17 a word"


def size_and_form_faults(node):
    if type(node).__name__ not in NODES:
        yield "L6, L7 " + type(node).__name__
    if isinstance(node, ast.FunctionDef):
        given = node.args
        if node.end_lineno - node.lineno >= 40:
            yield "L10 a function's size"
        if given.vararg or given.kwarg or given.kwonlyargs or given.posonlyargs or node.decorator_list:
            yield "L4 parameters"
        if node.returns or any(one.annotation for one in given.args):
            yield "L21 annotation"
    if isinstance(node, ast.ClassDef):
        if node.decorator_list or node.keywords or len(node.bases) > 1:
            yield "L5 a class"
        if not all(isinstance(part, (ast.FunctionDef, ast.Pass)) for part in node.body):
            yield "L5 a class body"
    if isinstance(node, (ast.For, ast.While)) and node.orelse or isinstance(node, ast.Try) and node.finalbody:
        yield "L6 else or finally"
    if isinstance(node, ast.Assign) and (len(node.targets) > 1 or isinstance(node.targets[0], (ast.Tuple, ast.List))):
        yield "L6 targets"


def value_faults(node):
    if isinstance(node, ast.Constant):
        if not (node.value is None or isinstance(node.value, (bool, int, str))):
            yield "L7 a value"
        if isinstance(node.value, str) and "%" in node.value:
            yield "L27 a sign in a text"
    if isinstance(node, ast.BinOp) and isinstance(node.op, ast.Pow):
        if not (isinstance(node.right, ast.Constant) and 0 <= node.right.value <= 64):
            yield "L27 an exponent"
    if isinstance(node, ast.Compare):
        for operator, side in zip(node.ops, node.comparators):
            if isinstance(operator, (ast.Is, ast.IsNot)) and not (
                isinstance(side, ast.Constant) and side.value in (None, True, False)
            ):
                yield "L20 is"
    if isinstance(node, ast.ExceptHandler) and (node.type is None or "Exception" in ast.dump(node.type)):
        yield "L19 a handler"


def methods_in(tree):
    return [part for node in ast.walk(tree) if isinstance(node, ast.ClassDef)
            for part in node.body if isinstance(part, ast.FunctionDef)]


# A method's name is bound within its class alone, so a local of that name is a name of its own.
def bound_names(tree):
    methods = methods_in(tree)
    for node in ast.walk(tree):
        if isinstance(node, (ast.FunctionDef, ast.ClassDef)) and node not in methods:
            yield node.name
        if isinstance(node, ast.arg):
            yield node.arg
        if isinstance(node, ast.Name) and isinstance(node.ctx, ast.Store):
            yield node.id
        if isinstance(node, ast.ExceptHandler) and node.name:
            yield node.name
        if isinstance(node, ast.ImportFrom):
            yield from [alias.asname or alias.name for alias in node.names]


def name_faults(tree, methods):
    bound = list(bound_names(tree))
    for name in bound:
        if name.startswith("_") or name in BANNED_NAMES or hasattr(builtins, name):
            yield "L8, L12, L15, L17 the name " + name
    for node in ast.walk(tree):
        if isinstance(node, ast.Name) and node.id not in bound and node.id not in OWN_NAMES:
            yield "L8 the name " + node.id
        if isinstance(node, ast.Attribute):
            if node.attr in BANNED_NAMES or node.attr.startswith("_") and node.attr not in DUNDERS:
                yield "L17 the attribute " + node.attr
        if isinstance(node, ast.Call) and isinstance(node.func, ast.Attribute):
            if node.func.attr not in OWN_METHODS + DUNDERS + methods:
                yield "L25 the method " + node.func.attr


def top_faults(tree):
    for place, node in enumerate(tree.body):
        docstring = place == 0 and isinstance(node, ast.Expr) and isinstance(node.value, ast.Constant)
        if not docstring and not isinstance(node, (ast.ImportFrom, ast.FunctionDef, ast.ClassDef, ast.Assign)):
            yield "L3 the top"
    for node in ast.walk(tree):
        if isinstance(node, ast.ImportFrom):
            if node not in tree.body or node.level or not re.fullmatch(r"twigmap\.[a-z_0-9]+", node.module or ""):
                yield "L2 an import"
            if any(alias.name == "*" or alias.asname for alias in node.names):
                yield "L2 an import's names"
        if isinstance(node, ast.Expr) and node is not tree.body[0] and not isinstance(node.value, ast.Call):
            yield "L6 a value by itself"


def faults(source, methods=()):
    tree = ast.parse(source)
    found = list(text_faults(source)) + list(top_faults(tree)) + list(name_faults(tree, list(methods)))
    for node in ast.walk(tree):
        found.extend(size_and_form_faults(node))
        found.extend(value_faults(node))
    return found


def package_files():
    return sorted(path for path in PACKAGE.rglob("*") if "__pycache__" not in path.parts)


def defined_in(path):
    return [node.name if hasattr(node, "name") else node.targets[0].id
            for node in ast.parse(path.read_text()).body
            if isinstance(node, (ast.FunctionDef, ast.ClassDef, ast.Assign))]


def drawn_from(path):
    return {node.module.split(".")[1]: [alias.name for alias in node.names]
            for node in ast.parse(path.read_text()).body if isinstance(node, ast.ImportFrom)}


# What an object keeps: all that is given through a dot.
def values_in(tree):
    return {node.attr for node in ast.walk(tree) if isinstance(node, ast.Attribute) and isinstance(node.ctx, ast.Store)}


def member_faults(trees):
    methods = {method.name for tree in trees for method in methods_in(tree)} - set(DUNDERS)
    values = {name for tree in trees for name in values_in(tree)}
    yield from ["L18 a method and a value " + name for name in sorted(methods & values)]
    yield from ["L26 the method " + name for name in sorted(methods & set(PYTHONS_OWN) - set(FREE_METHODS))]
    yield from ["L26 the value " + name for name in sorted(values & set(PYTHONS_OWN) - set(FREE_VALUES))]
    for tree in trees:
        for node in tree.body:
            if isinstance(node, ast.ClassDef):
                names = [method.name for method in methods_in(node)]
                yield from ["L18 twice " + name for name in sorted(set(names)) if names.count(name) > 1]


# Parameters and locals that are called like a class or an import of their file.
def hidden_names(tree):
    outer = {node.name for node in tree.body if isinstance(node, ast.ClassDef)}
    outer |= {alias.name for node in tree.body if isinstance(node, ast.ImportFrom) for alias in node.names}
    inner = {node.arg for node in ast.walk(tree) if isinstance(node, ast.arg)}
    inner |= {node.id for node in ast.walk(tree) if isinstance(node, ast.Name) and isinstance(node.ctx, ast.Store)}
    return sorted(outer & inner)


class LanguageTest(unittest.TestCase):
    def test_files(self):
        self.assertTrue((PACKAGE / "__init__.py").is_file())
        for path in package_files():
            self.assertRegex(path.name, r"\A([a-z][a-z0-9_]*|__init__)\.py\Z")
            self.assertIsNone(BANNED_FILES.fullmatch(path.stem))
            self.assertFalse(path.stem.isalpha() and hasattr(builtins, path.stem), path.stem)

    def test_every_file_keeps_to_the_rules(self):
        methods = [method.name for path in package_files() for method in methods_in(ast.parse(path.read_text()))]
        for path in package_files():
            with self.subTest(file=path.name):
                self.assertEqual(faults(path.read_text(), methods), [])

    def test_names_are_bound_once_and_drawn_from_where_they_are_defined(self):
        for path in package_files():
            names = defined_in(path) + [name for names in drawn_from(path).values() for name in names]
            self.assertEqual(len(names), len(set(names)), path.name)
            for other, names in drawn_from(path).items():
                self.assertLessEqual(set(names), set(defined_in(PACKAGE / (other + ".py"))))

    def test_names_of_methods_values_and_locals(self):
        trees = [ast.parse(path.read_text()) for path in package_files()]
        self.assertEqual(list(member_faults(trees)), [])
        for tree in trees:
            self.assertEqual(hidden_names(tree), [])

    def test_breaches_of_names_are_seen(self):
        for source in [
            "class A:\n    def b(self):\n        self.b = 1\n", "class A:\n    def sort(self):\n        pass\n",
            "class A:\n    def b(self):\n        self.items = 1\n",
            "class A:\n    def b(self):\n        self.real = 1\n",
            "class A:\n    def b(self):\n        pass\n    def b(self):\n        pass\n",
        ]:
            self.assertNotEqual(list(member_faults([ast.parse(source)])), [], source)
        for source in ["from twigmap.a import b\ndef f(b):\n    pass\n", "class A:\n    pass\ndef f():\n    A = 1\n"]:
            self.assertNotEqual(hidden_names(ast.parse(source)), [], source)

    def test_no_two_files_draw_from_one_another(self):
        left = {path.stem: set(drawn_from(path)) for path in package_files()}
        while left:
            free = [name for name in left if not left[name] & set(left)]
            self.assertTrue(free, left)
            for name in free:
                left.pop(name)

    def test_breaches_are_seen(self):
        for source in [
            "import sys\n", "from os import path\n", "from twigmap.keys import *\n", "print(1)\n", "a = 1.5\n",
            "def f(*a):\n    pass\n", "def f():\n    del a\n", "def f(a):\n    return a / 2\n", "a = b'x'\n",
            "def f(a):\n    return [x for x in a if (y := x)]\n", "def f(a):\n    return {x for x in a}\n",
            "def f(a):\n    return (x for x in a)\n", "def f(_a):\n    pass\n", "def f(id):\n    pass\n",
            "def f(a):\n    return a.encode()\n", "def f(a):\n    return 2 ** a\n", "def f(a):\n    return a is f\n",
            "def f():\n    return open('x')\n", "# type\n", "# \xe4\n", "a = 'x%'\n", "a = 1 # " + "x" * 120 + "\n",
            "def f():\n" + "    pass\n" * 40, "class A:\n    a = 1\n", "def f():\n    'words'\n", "a = b = 1\n",
            "def f():\n    try:\n        pass\n    except Exception:\n        pass\n", "def f(a: int):\n    pass\n",
            "def f(a):\n    return chr(a)\n", "def f():\n    yield 1\n", "def f(a):\n    with a:\n        pass\n",
        ]:
            self.assertNotEqual(faults(source), [], source)


if __name__ == "__main__":
    unittest.main()
