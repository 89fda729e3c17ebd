"""The rules of LANGUAGE.md that can be seen in a file by itself."""

import ast
import builtins
import pathlib
import re
import unittest

PACKAGE = pathlib.Path(__file__).resolve().parent.parent / "liftwave"

TOP = (ast.ImportFrom, ast.FunctionDef, ast.ClassDef, ast.Assign)
NODES = (
    ast.Module, ast.ImportFrom, ast.alias, ast.FunctionDef, ast.arguments, ast.arg, ast.ClassDef, ast.Assign,
    ast.AugAssign, ast.If, ast.While, ast.For, ast.Return, ast.Break, ast.Continue, ast.Pass, ast.Raise, ast.Try,
    ast.ExceptHandler, ast.Expr, ast.Lambda, ast.Name, ast.Attribute, ast.Subscript, ast.Slice, ast.Call,
    ast.keyword, ast.Constant, ast.List, ast.Tuple, ast.Dict, ast.Set, ast.ListComp, ast.comprehension, ast.IfExp,
    ast.BoolOp, ast.BinOp, ast.UnaryOp, ast.Compare, ast.JoinedStr, ast.FormattedValue, ast.expr_context,
    ast.boolop, ast.operator, ast.unaryop, ast.cmpop,
)
PYTHONS_OWN = (
    "len range enumerate zip min max sum abs sorted reversed int str bool list tuple dict set frozenset isinstance "
    "ord repr any all divmod Exception ValueError TypeError KeyError IndexError LookupError ZeroDivisionError "
    "ArithmeticError OverflowError RuntimeError NotImplementedError AttributeError StopIteration"
).split()
METHODS = (
    "append clear copy count endswith extend find get index insert isalnum isalpha isdigit islower isspace isupper "
    "items join keys ljust lower lstrip partition pop remove replace reverse rfind rjust rpartition rsplit rstrip "
    "setdefault split splitlines startswith strip update upper values zfill bit_length"
).split()
TWO_UNDERSCORES = ("__init__", "__eq__", "__repr__", "__str__", "__len__")
WORDS = (
    "type typing typing_extensions enum Enum IntEnum StrEnum Flag IntFlag Generic Protocol ABC ABCMeta namedtuple "
    "NamedTuple TypedDict TYPE_CHECKING abstractmethod"
).split()
WORD_PARTS = ("dataclass", "overload", "contextmanager")
WALKED_AT_ONCE = ("zip", "enumerate", "reversed", "range", "items", "keys", "values")
WALKERS = ("list", "tuple", "dict", "sorted", "sum", "any", "all", "enumerate", "zip", "min", "max", "join")


def files():
    return sorted(path for path in PACKAGE.rglob("*") if "__pycache__" not in path.parts)


def text_faults(text):
    found = []
    for number, line in enumerate(text.split("\n"), start=1):
        if len(line) > 120:
            found.append(("L10", number))
        if not re.fullmatch(r"[ -~]*", line):
            found.append(("L14", number))
        if set(re.findall(r"\w+", line)) & set(WORDS) or any(part in line for part in WORD_PARTS):
            found.append(("L17", number))
    if text.count("\n") > 400:
        found.append(("L10", 400))
    return found


def bound_names(tree):
    names = set()
    for node in ast.walk(tree):
        if isinstance(node, (ast.FunctionDef, ast.ClassDef)):
            names.add(node.name)
        elif isinstance(node, ast.alias):
            names.add(node.name)
        elif isinstance(node, ast.arg):
            names.add(node.arg)
        elif isinstance(node, ast.Name) and isinstance(node.ctx, ast.Store):
            names.add(node.id)
        elif isinstance(node, ast.ExceptHandler) and node.name:
            names.add(node.name)
    return names


def top_faults(tree):
    found = []
    bound = []
    for place, node in enumerate(tree.body):
        docstring = place == 0 and isinstance(node, ast.Expr) and isinstance(node.value, ast.Constant)
        if not docstring and not isinstance(node, TOP):
            found.append(("L3", node.lineno))
        if isinstance(node, ast.ImportFrom):
            own = node.level == 0 and re.fullmatch(r"liftwave\.\w+", node.module)
            if not own or any(alias.name == "*" or alias.asname for alias in node.names):
                found.append(("L16", node.lineno))
            bound.extend(alias.name for alias in node.names)
        elif isinstance(node, (ast.FunctionDef, ast.ClassDef)):
            bound.append(node.name)
        elif isinstance(node, ast.Assign):
            bound.extend(target.id for target in node.targets if isinstance(target, ast.Name))
            if any(isinstance(inner, (ast.Call, ast.Name, ast.BinOp)) for inner in ast.walk(node.value)):
                found.append(("L3", node.lineno))
    if len(bound) != len(set(bound)):
        found.append(("L15", 0))
    return found


def node_fault(node, bound, own_methods):
    if not isinstance(node, NODES):
        return "L6"
    if isinstance(node, ast.FunctionDef):
        args = node.args
        if node.decorator_list or args.vararg or args.kwarg or args.kwonlyargs or args.posonlyargs:
            return "L4"
        if node.end_lineno - node.lineno + 1 > 40:
            return "L10"
    if isinstance(node, ast.ClassDef):
        plain = all(isinstance(inner, (ast.FunctionDef, ast.Pass)) for inner in node.body)
        if node.decorator_list or node.keywords or len(node.bases) > 1 or not plain:
            return "L5"
    if isinstance(node, ast.Assign) and (len(node.targets) > 1 or isinstance(node.targets[0], (ast.Tuple, ast.List))):
        return "L6"
    if isinstance(node, (ast.For, ast.While)) and node.orelse or isinstance(node, ast.Try) and node.finalbody:
        return "L6"
    if isinstance(node, (ast.Div, ast.MatMult)) or isinstance(node, ast.Constant) and isinstance(
            node.value, (float, complex, bytes, type(...))):
        return "L7"
    if isinstance(node, ast.ListComp) and (len(node.generators) > 1 or len(node.generators[0].ifs) > 1):
        return "L7"
    if isinstance(node, ast.Name) and node.id not in bound and node.id not in PYTHONS_OWN:
        return "L8"
    if isinstance(node, ast.Attribute) and node.attr.startswith("_") and node.attr not in TWO_UNDERSCORES:
        return "L12"
    if isinstance(node, ast.Compare) and any(isinstance(op, (ast.Is, ast.IsNot)) for op in node.ops):
        if any(not isinstance(side, ast.Constant) or side.value not in (None, True, False)
               for side in node.comparators):
            return "L20"
    if isinstance(node, ast.Call) and isinstance(node.func, ast.Attribute):
        if node.func.attr not in METHODS and node.func.attr not in own_methods:
            return "L25"
    if isinstance(node, ast.BinOp) and isinstance(node.op, ast.Pow) and not isinstance(node.right, ast.Constant):
        return "L27"
    if isinstance(node, ast.Constant) and isinstance(node.value, str) and "%" in node.value:
        return "L27"
    return None


def called_name(node):
    if not isinstance(node, ast.Call):
        return None
    return node.func.attr if isinstance(node.func, ast.Attribute) else getattr(node.func, "id", None)


def kept_walks(tree):
    """L23 and L24: what is to be walked on the spot, and is not; sets that are kept."""
    walked = []
    set_uses = []
    for node in ast.walk(tree):
        if isinstance(node, (ast.For, ast.comprehension)):
            walked.append(node.iter)
        elif called_name(node) in WALKERS:
            walked.extend(node.args if called_name(node) == "zip" else node.args[:1])
        if called_name(node) in ("sorted", "len"):
            set_uses.extend(node.args[:1])
        elif isinstance(node, ast.Compare):
            set_uses.extend([node.left] + node.comparators)
    found = []
    for node in ast.walk(tree):
        if called_name(node) in WALKED_AT_ONCE and not any(node is other for other in walked):
            found.append(("L23", node.lineno))
        if called_name(node) == "set" and not any(node is other for other in set_uses):
            found.append(("L24", node.lineno))
    return found


def shadowing_names(tree):
    """L15: parameters and locals called like a class or an import of the file, or like a name of Python's own."""
    taken = set(dir(builtins))
    for node in tree.body:
        if isinstance(node, ast.ImportFrom):
            taken.update(alias.name for alias in node.names)
        elif isinstance(node, ast.ClassDef):
            taken.add(node.name)
    found = []
    for node in ast.walk(tree):
        if isinstance(node, ast.arg) and node.arg in taken:
            found.append(("L15", node.lineno))
        if isinstance(node, ast.Name) and isinstance(node.ctx, ast.Store) and node.id in taken:
            found.append(("L15", node.lineno))
    return found


def methods_and_values(trees):
    """L18: the names of all methods, and the names of all values that objects are given."""
    methods = set()
    values = set()
    for tree in trees:
        for node in ast.walk(tree):
            if isinstance(node, ast.ClassDef):
                methods.update(inner.name for inner in node.body if isinstance(inner, ast.FunctionDef))
            elif isinstance(node, ast.Attribute) and isinstance(node.ctx, ast.Store):
                values.add(node.attr)
    return methods, values


def pythons_names():
    """L26: what Python's own texts, numbers, lists, dicts, sets and bytes have as a method or a value."""
    return {name for kind in (str, int, list, tuple, dict, set, bytes) for name in dir(kind)}


def faults(text, own_methods=()):
    tree = ast.parse(text)
    bound = bound_names(tree)
    found = text_faults(text) + top_faults(tree) + kept_walks(tree) + shadowing_names(tree)
    for name in bound:
        if name in PYTHONS_OWN or name.startswith("_") and name not in TWO_UNDERSCORES:
            found.append(("L12", name))
    for node in ast.walk(tree):
        rule = node_fault(node, bound, own_methods)
        docstring = isinstance(node, ast.Expr) and node is tree.body[0]
        if isinstance(node, ast.Expr) and not docstring and not isinstance(node.value, ast.Call):
            rule = "L6"
        if rule is not None:
            found.append((rule, getattr(node, "lineno", None)))
    return found


class TheRules(unittest.TestCase):
    def methods_and_values(self):
        return methods_and_values([ast.parse(path.read_text(encoding="utf-8")) for path in files()])

    def test_the_package_keeps_to_them(self):
        own_methods = self.methods_and_values()[0] | set(TWO_UNDERSCORES)
        for path in files():
            with self.subTest(file=path.name):
                self.assertEqual(faults(path.read_text(encoding="utf-8"), own_methods), [])

    def test_no_name_is_a_method_and_a_value_or_one_of_pythons_own(self):
        methods, values = self.methods_and_values()
        self.assertEqual(methods & values, set())
        self.assertEqual((methods - set(TWO_UNDERSCORES)) & pythons_names(), set())
        self.assertEqual(values & pythons_names(), set())

    def test_only_plain_files_lie_in_the_package(self):
        self.assertTrue((PACKAGE / "__init__.py").is_file())
        for path in files():
            with self.subTest(file=path.name):
                self.assertRegex(path.name, r"^([a-z][a-z0-9_]*|__init__|__main__)\.py$")

    def test_no_two_files_draw_from_one_another(self):
        draws = {}
        for path in files():
            tree = ast.parse(path.read_text(encoding="utf-8"))
            draws["liftwave." + path.stem] = {n.module for n in tree.body if isinstance(n, ast.ImportFrom)}
        while draws:
            free = [name for name in draws if not draws[name] & set(draws)]
            self.assertNotEqual(free, [], draws)
            for name in free:
                del draws[name]

    def test_what_lies_outside_them_is_seen(self):
        outside = {
            "L3": "for k in range(3):\n    len([k])\n",
            "L4": "def f(*some):\n    return some\n",
            "L5": "class Some:\n    many = 3\n",
            "L6": "def f(a):\n    assert a\n",
            "L7": "def f(a):\n    return a / 2\n",
            "L8": "def f(a):\n    return hash(a)\n",
            "L10": "X = 1" + " " * 120 + "\n",
            "L12": "def _f(a):\n    return a\n",
            "L14": "X = '\u00e9'\n",
            "L15": "X = 1\nX = 2\n",
            "L16": "from os import path\n",
            "L17": "# a type\n",
            "L20": "def f(a, b):\n    return a is b\n",
            "L23": "def f(a):\n    return list(reversed(range(a)))\n",
            "L24": "def f(a):\n    b = set(a)\n    return b\n",
            "L25": "def f(a):\n    return a.title()\n",
            "L27": "def f(a):\n    return 2 ** a\n",
        }
        for rule, text in outside.items():
            with self.subTest(rule=rule):
                self.assertIn(rule, [fault[0] for fault in faults('"""A file."""\n' + text)])
        for text in ("from liftwave.spans import plus\ndef f(plus):\n    return plus\n",
                     "def f(a):\n    hash = a\n    return hash\n", "class C:\n    pass\ndef f(C):\n    return C\n"):
            self.assertIn("L15", [fault[0] for fault in faults('"""A file."""\n' + text)])
        tree = ast.parse("class C:\n    def m(self):\n        self.m = 1\n")
        self.assertEqual(methods_and_values([tree]), ({"m"}, {"m"}))


if __name__ == "__main__":
    unittest.main()
