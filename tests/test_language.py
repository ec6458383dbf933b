"""The rows of the language rules that can be seen in a file: sizes, signs, names, statements."""

import ast
import builtins
import re
import unittest
from pathlib import Path

PACKAGE = Path(__file__).resolve().parent.parent / "farcuts"
FILES = sorted(PACKAGE.glob("*.py"))

OWN_NAMES = set(
    """len range enumerate zip min max sum abs sorted reversed int str bool list tuple dict set frozenset
    isinstance ord repr any all divmod Exception ValueError TypeError KeyError IndexError LookupError
    ZeroDivisionError ArithmeticError OverflowError RuntimeError NotImplementedError AttributeError
    StopIteration""".split()
)
WORDS = re.compile(
    r"\b(type|typing|typing_extensions|enum|Enum|IntEnum|StrEnum|Flag|IntFlag|Generic|Protocol|ABC|ABCMeta"
    r"|namedtuple|NamedTuple|TypedDict|TYPE_CHECKING|abstractmethod)\b|dataclass|overload|contextmanager"
)
STATEMENTS = (
    ast.FunctionDef, ast.ClassDef, ast.Assign, ast.AugAssign, ast.If, ast.While, ast.For, ast.Return,
    ast.Break, ast.Continue, ast.Pass, ast.Raise, ast.Try, ast.Expr, ast.ImportFrom,
)
BARRED = (
    ast.Div, ast.SetComp, ast.DictComp, ast.GeneratorExp, ast.NamedExpr, ast.Starred, ast.Yield,
    ast.YieldFrom, ast.Await, ast.MatMult,
)
METHODS = set(
    """append clear copy count endswith extend find get index insert isalnum isalpha isdigit islower isspace
    isupper items join keys ljust lower lstrip partition pop remove replace reverse rfind rjust rpartition
    rsplit rstrip setdefault split splitlines startswith strip update upper values zfill bit_length""".split()
)
WALKED = ("zip", "enumerate", "reversed", "range")
WALKERS = ("list", "tuple", "dict", "sorted", "sum", "any", "all", "enumerate", "zip", "min", "max")


def stored_names(tree):
    """Each name that the file binds other than by an import, a def or a class."""
    found = []
    for node in ast.walk(tree):
        if isinstance(node, ast.Name) and isinstance(node.ctx, ast.Store):
            found.append(node.id)
        if isinstance(node, ast.arg):
            found.append(node.arg)
    return found


class Language(unittest.TestCase):
    def each(self):
        for path in FILES:
            text = path.read_text(encoding="utf-8")
            with self.subTest(path.name):
                yield path, text, ast.parse(text)

    def test_files(self):
        self.assertIn("__init__.py", [path.name for path in FILES])
        for path in PACKAGE.iterdir():
            if path.name != "__pycache__":
                self.assertRegex(path.name, r"^([a-z][a-z0-9_]*|__init__|__main__)\.py$")

    def test_sizes_and_signs(self):
        for path, text, tree in self.each():
            self.assertRegex(text, r"\A[ -~\n]*\Z")
            self.assertLessEqual(len(text.splitlines()), 400)
            self.assertLessEqual(max(len(line) for line in text.splitlines()), 120)
            for node in ast.walk(tree):
                if isinstance(node, ast.FunctionDef):
                    self.assertLessEqual(node.end_lineno - node.lineno + 1, 40, node.name)

    def test_words(self):
        for path, text, tree in self.each():
            self.assertIsNone(WORDS.search(text))

    def test_statements_and_expressions(self):
        for path, text, tree in self.each():
            for node in ast.walk(tree):
                where = (path.name, getattr(node, "lineno", None))
                if isinstance(node, ast.stmt):
                    self.assertIsInstance(node, STATEMENTS, where)
                self.assertNotIsInstance(node, BARRED, where)
                if isinstance(node, ast.Assign):
                    self.assertEqual(len(node.targets), 1, where)
                # A text by itself stands at the top of a file alone.
                if isinstance(node, ast.Expr) and node is not tree.body[0]:
                    self.assertIsInstance(node.value, ast.Call, where)
                if isinstance(node, (ast.For, ast.While)):
                    self.assertEqual(node.orelse, [], where)
                if isinstance(node, ast.ListComp):
                    self.assertEqual(len(node.generators), 1, where)
                    self.assertLessEqual(len(node.generators[0].ifs), 1, where)
                if isinstance(node, ast.Constant):
                    self.assertNotIsInstance(node.value, (float, bytes, complex), where)

    def test_imports(self):
        modules = {path.stem: ast.parse(path.read_text(encoding="utf-8")) for path in FILES}
        for path, text, tree in self.each():
            for node in tree.body:
                if isinstance(node, ast.ImportFrom):
                    package, dot, module = node.module.partition(".")
                    self.assertEqual((node.level, package), (0, "farcuts"))
                    defined = [one.name for one in modules[module].body if hasattr(one, "name")]
                    for one in node.names:
                        self.assertIn(one.name, defined)

    def test_nothing_draws_from_itself(self):
        drawn = {}
        for path, text, tree in self.each():
            rows = [node for node in tree.body if isinstance(node, ast.ImportFrom)]
            drawn[path.stem] = [node.module.partition(".")[2] for node in rows]
        while drawn:
            free = [name for name in drawn if not any(other in drawn for other in drawn[name])]
            self.assertNotEqual(free, [], sorted(drawn))
            for name in free:
                drawn.pop(name)

    def test_is_and_powers(self):
        for path, text, tree in self.each():
            for node in ast.walk(tree):
                if isinstance(node, ast.Compare):
                    for sign, thing in zip(node.ops, node.comparators):
                        if isinstance(sign, (ast.Is, ast.IsNot)):
                            self.assertIsInstance(thing, ast.Constant, node.lineno)
                            self.assertIn(thing.value, (None, True, False))
                if isinstance(node, ast.BinOp) and isinstance(node.op, ast.Pow):
                    self.assertIsInstance(node.right, ast.Constant, node.lineno)

    def test_methods(self):
        own = []
        for path, text, tree in self.each():
            for node in ast.walk(tree):
                if isinstance(node, ast.ClassDef):
                    own += [method.name for method in node.body if isinstance(method, ast.FunctionDef)]
        for path, text, tree in self.each():
            for node in ast.walk(tree):
                if isinstance(node, ast.Call) and isinstance(node.func, ast.Attribute):
                    self.assertIn(node.func.attr, sorted(METHODS) + own, node.lineno)

    def test_walked_at_once_and_sets(self):
        for path, text, tree in self.each():
            free = []
            for node in ast.walk(tree):
                if isinstance(node, (ast.For, ast.comprehension)):
                    free.append(node.iter)
                if isinstance(node, ast.Call) and isinstance(node.func, ast.Name) and node.args:
                    if node.func.id in WALKERS:
                        free += node.args
                    if node.func.id in ("sorted", "len") and not node.keywords:
                        free.append(node.args[0])
                if isinstance(node, ast.Compare):
                    free += node.comparators + [node.left]
            for node in ast.walk(tree):
                if isinstance(node, ast.Call) and isinstance(node.func, ast.Name):
                    if node.func.id in WALKED + ("set", "frozenset"):
                        self.assertIn(node, free, node.lineno)

    def test_names(self):
        for path, text, tree in self.each():
            taken = []
            for node in ast.walk(tree):
                if isinstance(node, ast.Name) and hasattr(builtins, node.id):
                    self.assertIn(node.id, OWN_NAMES)
                if isinstance(node, ast.ClassDef):
                    taken.append(node.name)
                if isinstance(node, ast.ImportFrom):
                    taken += [one.name for one in node.names]
            for name in stored_names(tree):
                self.assertFalse(name.startswith("_"), name)
                self.assertFalse(hasattr(builtins, name), name)
                self.assertNotIn(name, taken)


if __name__ == "__main__":
    unittest.main()
