"""Some rules of the language in which the package is written: those that are easily broken unseen."""

import ast
import builtins
import re
import unittest
from pathlib import Path

PACKAGE = Path(__file__).resolve().parent.parent / "liftwords"
FILES = sorted(PACKAGE.rglob("*.py"))
BUILTINS = set("""len range enumerate zip min max sum abs sorted reversed int str bool bytes list tuple dict set frozenset
isinstance ord repr any all divmod iter next super property staticmethod classmethod Exception ValueError TypeError
KeyError IndexError LookupError ZeroDivisionError ArithmeticError OverflowError RuntimeError NotImplementedError
AttributeError StopIteration NotImplemented""".split())
BARRED = re.compile(r"\b(type|typing|typing_extensions|enum|Enum|IntEnum|StrEnum|Flag|IntFlag|Generic|Protocol|ABC|"
                    r"ABCMeta|namedtuple|NamedTuple|TypedDict|TYPE_CHECKING|abstractmethod)\b|"
                    r"dataclass|overload|contextmanager")
FUNCTIONS = (ast.FunctionDef, ast.Lambda)
# What these give is not kept.
AT_ONCE = ("zip", "enumerate", "reversed", "range", "items", "keys", "values")


def nodes(kind):
    """All nodes of a kind in the package, each with the name of its file."""
    for path in FILES:
        for node in ast.walk(ast.parse(path.read_text())):
            if isinstance(node, kind):
                yield path.name, node


def called(node):
    """The name of the function or method that an expression calls, or None."""
    if not isinstance(node, ast.Call):
        return None
    return node.func.id if isinstance(node.func, ast.Name) else node.func.attr


class Language(unittest.TestCase):

    def test_files(self):
        self.assertTrue(FILES)
        for path in PACKAGE.rglob("*"):
            self.assertTrue(path.suffix == ".py" or "__pycache__" in path.parts or path.is_dir(), path)

    def test_lines_and_characters(self):
        for path in FILES:
            lines = path.read_text().split("\n")
            self.assertLessEqual(len(lines), 400, path)
            for number, line in enumerate(lines, 1):
                self.assertLessEqual(len(line), 120, (path, number))
                self.assertTrue(all(" " <= char <= "~" for char in line), (path, number))
                self.assertIsNone(BARRED.search(line), (path, number))

    def test_sizes_of_functions(self):
        for name, node in nodes(ast.FunctionDef):
            self.assertLessEqual(node.end_lineno - node.lineno + 1, 40, (name, node.name))

    def test_imports(self):
        self.assertEqual(list(nodes(ast.Import)), [])
        for name, node in nodes(ast.ImportFrom):
            self.assertRegex(node.module, r"^(liftwords\.\w+|__future__)$", name)
            self.assertEqual(node.level, 0, name)

    def test_builtins(self):
        for name, node in nodes(ast.Name):
            if isinstance(node.ctx, ast.Load) and hasattr(builtins, node.id):
                self.assertIn(node.id, BUILTINS, name)
            else:
                self.assertFalse(hasattr(builtins, node.id), (name, node.id))
                self.assertRegex(node.id, r"^[A-Za-z]", name)

    def test_names_of_parameters(self):
        for name, node in nodes(FUNCTIONS):
            for parameter in (*node.args.posonlyargs, *node.args.args, *node.args.kwonlyargs):
                self.assertFalse(hasattr(builtins, parameter.arg), (name, parameter.arg))
                self.assertRegex(parameter.arg, r"^[A-Za-z]", name)

    def test_strings(self):
        for name, node in nodes(ast.Constant):
            self.assertNotIsInstance(node.value, (float, complex), name)
            if isinstance(node.value, str):
                self.assertNotIn("%", node.value, name)

    def test_what_is_iterated_at_once(self):
        for name, node in nodes((ast.Assign, ast.Return)):
            self.assertNotIn(called(node.value), AT_ONCE, (name, node.lineno))
        for name, node in nodes(ast.Call):
            if called(node) == "reversed":
                self.assertIn(called(node.args[0]), ("list", "tuple", "sorted", "range"), (name, node.lineno))

    def test_lists_where_classes_have_operators(self):
        # A generator expression is not passed where own operators could be called.
        self.assertEqual([(name, node.lineno) for name, node in nodes(ast.GeneratorExp)], [])

    def test_generators_are_iterated_at_once(self):
        generators = {node.name for name, node in nodes(ast.FunctionDef)
                      if any(isinstance(inner, ast.Yield) for inner in ast.walk(node))}
        iterated = [node.iter for name, node in nodes((ast.For, ast.comprehension))]
        iterated += [node.args[0] for name, node in nodes(ast.Call) if called(node) in ("list", "tuple") and node.args]
        places = {(node.lineno, node.col_offset, called(node)) for node in iterated if called(node) in generators}
        for name, node in nodes(ast.Call):
            if called(node) in generators:
                self.assertIn((node.lineno, node.col_offset, called(node)), places, name)

    def test_methods_and_attributes_have_names_of_their_own(self):
        methods = {node.name for name, owner in nodes(ast.ClassDef) for node in owner.body
                   if isinstance(node, ast.FunctionDef)}
        stored = {node.attr for name, node in nodes(ast.Attribute) if isinstance(node.ctx, ast.Store)}
        self.assertEqual(methods & stored, set())

    def test_statements_that_are_not_used(self):
        barred = (ast.Global, ast.AsyncFunctionDef, ast.AsyncFor, ast.AsyncWith, ast.Await, ast.Div)
        self.assertEqual([(name, node.lineno) for name, node in nodes(barred)], [])


if __name__ == "__main__":
    unittest.main()
