"""The package keeps to the small part of Python that it is written in.

The numbers L1 to L28 are those of LANGUAGE.md. Not every rule is seen here; these are the ones that are
broken most easily.
"""

import ast
import builtins
import pathlib
import re
import unittest

PACKAGE = pathlib.Path(__file__).resolve().parent.parent / "pearlhall"
FILES = sorted(PACKAGE.rglob("*.py"))

STATEMENTS = (
    ast.Assign, ast.AugAssign, ast.If, ast.While, ast.For, ast.Return, ast.Break, ast.Continue, ast.Pass,
    ast.Raise, ast.Try, ast.Expr, ast.FunctionDef, ast.ClassDef, ast.ImportFrom,
)
EXPRESSIONS = (
    ast.Constant, ast.List, ast.Tuple, ast.Dict, ast.Set, ast.BinOp, ast.UnaryOp, ast.BoolOp, ast.Compare,
    ast.IfExp, ast.Call, ast.Attribute, ast.Subscript, ast.Slice, ast.ListComp, ast.JoinedStr,
    ast.FormattedValue, ast.Name, ast.Lambda,
)
OWN_NAMES = set(
    "len range enumerate zip min max sum abs sorted reversed int str bool list tuple dict set frozenset isinstance "
    "ord repr any all divmod Exception ValueError TypeError KeyError IndexError LookupError ZeroDivisionError "
    "ArithmeticError OverflowError RuntimeError NotImplementedError AttributeError StopIteration".split()
)
METHODS = set(
    "append clear copy count endswith extend find get index insert isalnum isalpha isdigit islower isspace isupper "
    "items join keys ljust lower lstrip partition pop remove replace reverse rfind rjust rpartition rsplit rstrip "
    "setdefault split splitlines startswith strip update upper values zfill bit_length".split()
)
WORDS = set(
    "type typing typing_extensions enum Enum IntEnum StrEnum Flag IntFlag Generic Protocol ABC ABCMeta namedtuple "
    "NamedTuple TypedDict TYPE_CHECKING abstractmethod".split()
)
WITHIN_WORDS = ("dataclass", "overload", "contextmanager")
PLAIN_NAME = re.compile(r"[A-Za-z][A-Za-z0-9_]*")
UNDERSCORED = ("__init__", "__eq__", "__repr__", "__str__", "__len__")

KEYWORDS = {
    "sorted": ("key", "reverse"), "min": ("key", "default"), "max": ("key", "default"), "sum": ("start",),
    "enumerate": ("start",), "zip": ("strict",),
}
WALKS = ("zip", "enumerate", "reversed", "range")
WALKERS = ("list", "tuple", "dict", "sorted", "sum", "any", "all", "enumerate", "zip", "min", "max")


def is_call_of(node, names):
    return isinstance(node, ast.Call) and isinstance(node.func, ast.Name) and node.func.id in names


def nodes_of(path):
    return list(ast.walk(ast.parse(path.read_text(encoding="utf-8"))))


def bound_names(node):
    if isinstance(node, (ast.FunctionDef, ast.ClassDef)):
        return [node.name]
    if isinstance(node, ast.arg):
        return [node.arg]
    if isinstance(node, ast.Name) and isinstance(node.ctx, ast.Store):
        return [node.id]
    return []


class LanguageTest(unittest.TestCase):
    def each_node(self):
        for path in FILES:
            for node in nodes_of(path):
                place = f"{path.name}:{getattr(node, 'lineno', '?')}"
                yield place, node

    def test_files(self):
        """L1, L14"""
        self.assertIn(PACKAGE / "__init__.py", FILES)
        for path in PACKAGE.rglob("*"):
            if "__pycache__" not in path.parts:
                self.assertRegex(path.name, r"^(__init__|[a-z][a-z0-9_]*)\.py$")

    def test_signs_and_sizes(self):
        """L10, L14"""
        for path in FILES:
            text = path.read_text(encoding="utf-8")
            self.assertRegex(text, r"\A[ -~\n]*\Z", path.name)
            lines = text.split("\n")
            self.assertLessEqual(len(lines), 401, path.name)
            self.assertLessEqual(max(len(line) for line in lines), 120, path.name)
        for place, node in self.each_node():
            if isinstance(node, ast.FunctionDef):
                self.assertLessEqual(node.end_lineno - node.lineno + 1, 40, place)

    def test_words(self):
        """L17"""
        for path in FILES:
            text = path.read_text(encoding="utf-8")
            self.assertEqual(WORDS & set(re.findall(r"\w+", text)), set(), path.name)
            for word in WITHIN_WORDS:
                self.assertNotIn(word, text, path.name)

    def test_imports(self):
        """L2, L16"""
        for place, node in self.each_node():
            if isinstance(node, ast.ImportFrom):
                self.assertEqual(node.level, 0, place)
                self.assertRegex(node.module, r"^pearlhall\.[a-z]", place)
                source = PACKAGE.parent / (node.module.replace(".", "/") + ".py")
                top = [name for inner in ast.parse(source.read_text()).body for part in ast.walk(inner)
                       for name in bound_names(part)]
                for alias in node.names:
                    self.assertIn(alias.name, top, place)

    def test_forms(self):
        """L4 to L7"""
        for place, node in self.each_node():
            if isinstance(node, ast.stmt):
                self.assertIsInstance(node, STATEMENTS, place)
            if isinstance(node, ast.expr):
                self.assertIsInstance(node, EXPRESSIONS, place)
            if isinstance(node, ast.Constant):
                self.assertIn(node.value.__class__, (int, str, bool, None.__class__), place)
            if isinstance(node, (ast.FunctionDef, ast.ClassDef)):
                self.assertEqual(node.decorator_list, [], place)
            if isinstance(node, ast.arguments):
                self.assertFalse(node.vararg or node.kwarg or node.kwonlyargs or node.posonlyargs, place)
            if isinstance(node, (ast.For, ast.While)):
                self.assertEqual(node.orelse, [], place)
            if isinstance(node, ast.Try):
                self.assertEqual(node.finalbody, [], place)
            if isinstance(node, ast.Assign):
                self.assertEqual(len(node.targets), 1, place)
            if isinstance(node, ast.ListComp):
                self.assertEqual(len(node.generators), 1, place)
                self.assertLessEqual(len(node.generators[0].ifs), 1, place)
            if isinstance(node, ast.BinOp):
                self.assertNotIsInstance(node.op, (ast.Div, ast.MatMult), place)

    def test_a_text_by_itself_stands_only_at_the_top(self):
        """L3, L6"""
        for path in FILES:
            tree = ast.parse(path.read_text(encoding="utf-8"))
            lone = [node for node in ast.walk(tree) if isinstance(node, ast.Expr)
                    and not isinstance(node.value, ast.Call)]
            self.assertEqual(lone, tree.body[:1] if lone else [], path.name)

    def test_names(self):
        """L8, L12, L15"""
        for place, node in self.each_node():
            for name in bound_names(node):
                if name not in UNDERSCORED:
                    self.assertTrue(PLAIN_NAME.fullmatch(name), f"{place} {name}")
                self.assertNotIn(name, dir(builtins), place)
            if isinstance(node, ast.Name) and node.id in dir(builtins):
                self.assertIn(node.id, OWN_NAMES, place)

    def test_methods(self):
        """L25"""
        own = [node.name for place, node in self.each_node() if isinstance(node, ast.FunctionDef)]
        for place, node in self.each_node():
            if isinstance(node, ast.Call) and isinstance(node.func, ast.Attribute):
                self.assertTrue(node.func.attr in METHODS or node.func.attr in own, f"{place} {node.func.attr}")

    def test_is(self):
        """L20"""
        for place, node in self.each_node():
            if isinstance(node, ast.Compare) and isinstance(node.ops[0], (ast.Is, ast.IsNot)):
                sides = [side.value for side in [node.left] + node.comparators if isinstance(side, ast.Constant)]
                self.assertTrue(any(side in (None, True, False) for side in sides), place)

    def test_texts(self):
        """L27"""
        for place, node in self.each_node():
            if isinstance(node, ast.Constant) and isinstance(node.value, str):
                self.assertNotIn("%", node.value, place)

    def test_powers(self):
        """L27"""
        for place, node in self.each_node():
            if isinstance(node, ast.BinOp) and isinstance(node.op, ast.Pow):
                self.assertIsInstance(node.right, ast.Constant, place)

    def test_keywords(self):
        """L22"""
        for place, node in self.each_node():
            if isinstance(node, ast.Call) and node.keywords:
                self.assertIsInstance(node.func, ast.Name, place)
                for keyword in node.keywords:
                    self.assertIn(keyword.arg, KEYWORDS.get(node.func.id, ()), place)

    def test_walked_at_once(self):
        """L23"""
        for path in FILES:
            nodes = nodes_of(path)
            walked = [node.iter for node in nodes if isinstance(node, (ast.For, ast.comprehension))]
            walked += [node.args[0] for node in nodes if is_call_of(node, WALKERS) and node.args]
            for node in nodes:
                if is_call_of(node, WALKS):
                    self.assertIn(node, walked, f"{path.name}:{node.lineno}")

    def test_sets(self):
        """L24: here only straight within `sorted` or `len`"""
        for path in FILES:
            nodes = nodes_of(path)
            used = [node.args[0] for node in nodes if is_call_of(node, ("sorted", "len")) and not node.keywords]
            for node in nodes:
                if is_call_of(node, ("set", "frozenset")) or isinstance(node, ast.Set):
                    self.assertIn(node, used, f"{path.name}:{node.lineno}")

    def test_no_local_is_called_like_an_import_or_a_def(self):
        """L15"""
        for path in FILES:
            nodes = nodes_of(path)
            taken = [alias.name for node in nodes if isinstance(node, ast.ImportFrom) for alias in node.names]
            taken += [node.name for node in nodes if isinstance(node, (ast.FunctionDef, ast.ClassDef))]
            for node in nodes:
                if isinstance(node, (ast.arg, ast.Name)):
                    for name in bound_names(node):
                        self.assertNotIn(name, taken, f"{path.name}:{node.lineno}")

    def test_imports_make_no_ring(self):
        """L16"""
        drawn = {}
        for path in FILES:
            sources = [node.module for node in nodes_of(path) if isinstance(node, ast.ImportFrom)]
            drawn["pearlhall." + path.stem] = sources
        while drawn:
            free = [name for name, sources in drawn.items() if not any(source in drawn for source in sources)]
            self.assertNotEqual(free, [], drawn)
            for name in free:
                drawn.pop(name)


if __name__ == "__main__":
    unittest.main()
