"""Those rules of the language that can be read off the files of the package."""

import ast
import builtins
import re
import unittest
from pathlib import Path

from leastfail import errors

PACKAGE = Path(__file__).resolve().parent.parent / "leastfail"
FILES = sorted(path for path in PACKAGE.rglob("*") if path.is_file() and "__pycache__" not in path.parts)
BUILTINS = set("""len range enumerate zip min max sum abs sorted reversed int str bool bytes list tuple dict set
    isinstance ord repr any all divmod Exception ValueError TypeError KeyError IndexError LookupError
    ZeroDivisionError ArithmeticError OverflowError RuntimeError NotImplementedError AttributeError
    StopIteration NotImplemented""".split())
BARRED_WORDS = """type typing typing_extensions enum Enum IntEnum StrEnum Flag IntFlag Generic Protocol ABC ABCMeta
    namedtuple NamedTuple TypedDict TYPE_CHECKING abstractmethod""".split()
BARRED_PARTS = ("dataclass", "overload", "contextmanager")
BARRED_NODES = (ast.Global, ast.AsyncFunctionDef, ast.AsyncFor, ast.AsyncWith, ast.Await, ast.Div, ast.Import)
FUNCTIONS = (ast.FunctionDef, ast.Lambda)
DOUBLE = {"__init__", "__eq__", "__repr__", "__str__", "__len__", "__enter__", "__exit__", "__call__", "__iter__"}


def nodes(kind):
    """Each node of a kind, or of one of several kinds, with its place."""
    for path in FILES:
        for node in ast.walk(ast.parse(path.read_text())):
            if isinstance(node, kind):
                yield f"{path.name}:{getattr(node, 'lineno', 0)}", node


def bound_names():
    """Each name that is bound, with its place."""
    for place, node in nodes((ast.Name, ast.arg, ast.FunctionDef, ast.ClassDef, ast.alias, ast.ExceptHandler)):
        if isinstance(node, ast.Name) and isinstance(node.ctx, ast.Store):
            yield place, node.id
        elif isinstance(node, ast.arg):
            yield place, node.arg
        elif not isinstance(node, ast.Name) and node.name is not None:
            yield place, node.name


class LanguageTests(unittest.TestCase):

    def none(self, places):
        self.assertEqual(list(places), [])

    def test_files(self):
        self.assertIn(PACKAGE / "__init__.py", FILES)
        self.none(path.name for path in FILES if not re.fullmatch(r"[a-z0-9_]+\.py", path.name))

    def test_signs_and_sizes(self):
        for path in FILES:
            text = path.read_text()
            with self.subTest(file=path.name):
                self.assertEqual(set(re.findall(r"[^ -~\n]", text)), set())
                self.assertLessEqual(text.count("\n"), 400)
                self.assertLessEqual(max(len(line) for line in text.split("\n")), 120)

    def test_functions_are_short(self):
        self.none(place for place, node in nodes(ast.FunctionDef) if node.end_lineno - node.lineno >= 40)

    def test_barred_words(self):
        for path in FILES:
            words = re.findall(r"\w+", path.read_text())
            self.none(word for word in words if word in BARRED_WORDS or any(part in word for part in BARRED_PARTS))

    def test_imports_are_of_the_package_and_in_no_circle(self):
        above = {}
        for place, node in nodes(ast.ImportFrom):
            self.assertRegex(node.module, r"^leastfail\.[a-z]+$", place)
            self.assertEqual([name.name for name in node.names if name.name == "*" or name.asname], [], place)
            above.setdefault(place.split(".")[0], set()).add(node.module.split(".")[1])
        while above:
            free = [name for name in above if not above[name] & set(above)]
            self.assertTrue(free, above)
            for name in free:
                del above[name]

    def test_barred_nodes(self):
        self.none(place for place, _ in nodes(BARRED_NODES))

    def test_builtins(self):
        named = {name for _, name in bound_names()}
        loaded = nodes(ast.Name)
        self.none((place, node.id) for place, node in loaded if node.id not in named | BUILTINS)
        self.none((place, name) for place, name in bound_names() if name in BUILTINS)

    def test_names(self):
        self.none((place, name) for place, name in bound_names() if name.startswith("_") and name not in DOUBLE)

    def test_no_local_name_is_that_of_an_import_a_class_or_a_builtin(self):
        for path in FILES:
            tree = ast.parse(path.read_text())
            above = {name.name for node in tree.body if isinstance(node, ast.ImportFrom) for name in node.names}
            above |= {node.name for node in tree.body if isinstance(node, ast.ClassDef)} | set(dir(builtins))
            named = [node.arg if isinstance(node, ast.arg) else node.id for node in ast.walk(tree)
                     if isinstance(node, ast.arg) or isinstance(node, ast.Name) and isinstance(node.ctx, ast.Store)]
            self.none((path.name, name) for name in named if name in above)

    def test_each_import_is_used(self):
        for path in FILES:
            tree = ast.parse(path.read_text())
            used = {node.id for node in ast.walk(tree) if isinstance(node, ast.Name)}
            self.none((path.name, name.name) for node in tree.body if isinstance(node, ast.ImportFrom)
                      for name in node.names if name.name not in used)

    def test_errors_that_are_caught_are_own_ones_and_have_names_of_their_own(self):
        for path in FILES:
            tree = ast.parse(path.read_text())
            for function in [node for node in ast.walk(tree) if isinstance(node, ast.FunctionDef)]:
                caught = [node for node in ast.walk(function) if isinstance(node, ast.ExceptHandler)]
                names = [node.name for node in caught if node.name]
                self.assertEqual(len(names), len(set(names)), function.name)
                self.none(ast.unparse(node.type) for node in caught if not hasattr(errors, ast.unparse(node.type)))

    def test_constants(self):
        for place, node in nodes(ast.Constant):
            self.assertNotIsInstance(node.value, (float, complex), place)
            if isinstance(node.value, str):
                self.assertNotIn("%", node.value, place)

    def test_is_stands_beside_none_true_and_false_alone(self):
        for place, node in nodes(ast.Compare):
            for sign, right in zip(node.ops, node.comparators):
                if isinstance(sign, (ast.Is, ast.IsNot)):
                    self.assertTrue(isinstance(right, ast.Constant) and right.value in (None, True, False), place)

    def test_no_name_is_both_method_and_attribute(self):
        methods = {method.name for _, node in nodes(ast.ClassDef) for method in node.body
                   if isinstance(method, ast.FunctionDef)}
        stored = {node.attr for _, node in nodes(ast.Attribute) if isinstance(node.ctx, ast.Store)}
        self.assertEqual(methods & stored, set())

    def test_any_and_their_like_take_lists(self):
        for place, node in nodes(ast.Call):
            if isinstance(node.func, ast.Name) and node.func.id in ("any", "all", "min", "max", "sum", "sorted"):
                self.none(place for told in node.args if isinstance(told, ast.GeneratorExp))

    def test_no_argument_stands_ahead_of_a_slash(self):
        self.none(place for place, node in nodes(FUNCTIONS) if node.args.posonlyargs)


if __name__ == "__main__":
    unittest.main()
