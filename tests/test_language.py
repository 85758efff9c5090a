"""Some rules of the language in which the package is written: those that are easily broken unseen."""

import ast
import builtins
import re
import unittest
from pathlib import Path

PACKAGE = Path(__file__).resolve().parent.parent / "liftwords"
FILES = sorted(PACKAGE.rglob("*.py"))
BUILTINS = set("""len range enumerate zip min max sum abs sorted reversed int str bool bytes list tuple dict set frozenset
isinstance ord repr any all divmod iter next super property staticmethod classmethod Exception ValueError TypeError
KeyError IndexError LookupError ZeroDivisionError ArithmeticError OverflowError RuntimeError NotImplementedError
AttributeError StopIteration NotImplemented""".split())
BARRED = re.compile(r"\b(type|typing|typing_extensions|enum|Enum|IntEnum|StrEnum|Flag|IntFlag|Generic|Protocol|ABC|"
                    r"ABCMeta|namedtuple|NamedTuple|TypedDict|TYPE_CHECKING|abstractmethod)\b|"
                    r"dataclass|overload|contextmanager")
FUNCTIONS = (ast.FunctionDef, ast.Lambda)


def nodes(kind):
    """All nodes of a kind in the package, each with the name of its file."""
    for path in FILES:
        for node in ast.walk(ast.parse(path.read_text())):
            if isinstance(node, kind):
                yield path.name, node


class Language(unittest.TestCase):

    def test_files(self):
        self.assertTrue(FILES)
        for path in PACKAGE.rglob("*"):
            self.assertTrue(path.suffix == ".py" or "__pycache__" in path.parts or path.is_dir(), path)

    def test_lines_and_characters(self):
        for path in FILES:
            lines = path.read_text().split("\n")
            self.assertLessEqual(len(lines), 400, path)
            for number, line in enumerate(lines, 1):
                self.assertLessEqual(len(line), 120, (path, number))
                self.assertTrue(all(" " <= char <= "~" for char in line), (path, number))
                self.assertIsNone(BARRED.search(line), (path, number))

    def test_sizes_of_functions(self):
        for name, node in nodes(ast.FunctionDef):
            self.assertLessEqual(node.end_lineno - node.lineno + 1, 40, (name, node.name))

    def test_imports(self):
        self.assertEqual(list(nodes(ast.Import)), [])
        for name, node in nodes(ast.ImportFrom):
            self.assertRegex(node.module, r"^(liftwords\.\w+|__future__)$", name)
            self.assertEqual(node.level, 0, name)

    def test_builtins(self):
        for name, node in nodes(ast.Name):
            if isinstance(node.ctx, ast.Load) and hasattr(builtins, node.id):
                self.assertIn(node.id, BUILTINS, name)
            else:
                self.assertFalse(hasattr(builtins, node.id), (name, node.id))
                self.assertRegex(node.id, r"^[A-Za-z]", name)

    def test_names_of_parameters(self):
        for name, node in nodes(FUNCTIONS):
            for parameter in (*node.args.posonlyargs, *node.args.args, *node.args.kwonlyargs):
                self.assertFalse(hasattr(builtins, parameter.arg), (name, parameter.arg))
                self.assertRegex(parameter.arg, r"^[A-Za-z]", name)

    def test_strings(self):
        for name, node in nodes(ast.Constant):
            self.assertNotIsInstance(node.value, (float, complex), name)
            if isinstance(node.value, str):
                self.assertNotIn("%", node.value, name)

    def test_statements_that_are_not_used(self):
        barred = (ast.Global, ast.AsyncFunctionDef, ast.AsyncFor, ast.AsyncWith, ast.Await, ast.Div)
        self.assertEqual([(name, node.lineno) for name, node in nodes(barred)], [])


if __name__ == "__main__":
    unittest.main()
