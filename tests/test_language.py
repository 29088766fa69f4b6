"""Checks those rules of LANGUAGE.md on the package that can be read off its text."""

import ast
import re
import unittest
from pathlib import Path

PACKAGE = Path(__file__).parent.parent / "linkforests"
BARRED = re.compile(
    r"\b(type|typing|typing_extensions|enum|Enum|IntEnum|StrEnum|Flag|IntFlag|Generic|Protocol|ABC|ABCMeta"
    r"|namedtuple|NamedTuple|TypedDict|TYPE_CHECKING|abstractmethod)\b|dataclass|overload|contextmanager"
)
STATEMENTS = (ast.Expr, ast.ImportFrom, ast.FunctionDef, ast.ClassDef, ast.Assign)
CONSTANTS = (None, True, False)


def sources():
    """Returns pairs of a file of the package and its text."""
    return [(path, path.read_text(encoding="utf-8")) for path in sorted(PACKAGE.rglob("*.py"))]


def nodes_of(kind):
    """Returns pairs of a file's name and a part of this kind in it."""
    parts = [(path.name, node) for path, text in sources() for node in ast.walk(ast.parse(text))]
    return [(name, node) for name, node in parts if isinstance(node, kind)]


class LanguageTest(unittest.TestCase):
    def test_the_package_contains_only_python_files(self):
        found = [path for path in PACKAGE.rglob("*") if "__pycache__" not in path.parts]
        self.assertEqual([path for path in found if path.is_file() and path.suffix != ".py"], [])
        self.assertIn(PACKAGE / "__init__.py", found)

    def test_sizes_and_characters(self):
        for path, text in sources():
            with self.subTest(file=path.name):
                self.assertLessEqual(text.count("\n"), 400)
                self.assertLessEqual(max(len(line) for line in text.split("\n")), 120)
                self.assertEqual(re.findall(r"[^ -~\n]", text), [])

    def test_functions_are_short(self):
        for name, node in nodes_of(ast.FunctionDef):
            with self.subTest(file=name, function=node.name):
                self.assertLessEqual(node.end_lineno - node.lineno + 1, 40)

    def test_barred_words(self):
        for path, text in sources():
            with self.subTest(file=path.name):
                self.assertIsNone(BARRED.search(text))

    def test_imports_come_from_the_package(self):
        self.assertEqual([node for name, node in nodes_of(ast.Import)], [])
        for name, node in nodes_of(ast.ImportFrom):
            with self.subTest(file=name, line=node.lineno):
                self.assertEqual(node.level, 0)
                self.assertTrue(node.module.startswith("linkforests."))
                self.assertEqual([alias for alias in node.names if alias.name == "*"], [])

    def test_module_level(self):
        for path, text in sources():
            for node in ast.parse(text).body:
                with self.subTest(file=path.name, line=node.lineno):
                    self.assertIsInstance(node, STATEMENTS)

    def test_names(self):
        named = [(name, node.id) for name, node in nodes_of(ast.Name)]
        named += [(name, node.arg) for name, node in nodes_of(ast.arg)]
        named += [(name, node.attr) for name, node in nodes_of(ast.Attribute)]
        self.assertEqual([row for row in named if row[1].startswith("_")], [])

    def test_is_stands_beside_constants(self):
        for name, node in nodes_of(ast.Compare):
            for sign, right in zip(node.ops, node.comparators):
                if isinstance(sign, (ast.Is, ast.IsNot)):
                    with self.subTest(file=name, line=node.lineno):
                        self.assertIsInstance(right, ast.Constant)
                        self.assertTrue(any(right.value is constant for constant in CONSTANTS))


if __name__ == "__main__":
    unittest.main()
