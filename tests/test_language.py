"""Checks those rules of LANGUAGE.md on the package that can be read off its text."""

import ast
import builtins
import re
import unittest
from pathlib import Path

PACKAGE = Path(__file__).parent.parent / "linkforests"
BARRED = re.compile(
    r"\b(type|typing|typing_extensions|enum|Enum|IntEnum|StrEnum|Flag|IntFlag|Generic|Protocol|ABC|ABCMeta"
    r"|namedtuple|NamedTuple|TypedDict|TYPE_CHECKING|abstractmethod)\b|dataclass|overload|contextmanager"
)
STATEMENTS = (ast.Expr, ast.ImportFrom, ast.FunctionDef, ast.ClassDef, ast.Assign)
CONSTANTS = (None, True, False)
BUILTINS = set(
    "len range enumerate zip min max sum abs sorted reversed int str bool list tuple dict set isinstance ord repr any"
    " all divmod ValueError property classmethod".split()
)
METHODS = set(
    "append bit_length clear copy count extend get index insert isascii isdigit items join keys partition pop remove"
    " reverse split startswith update values".split()
)


def sources():
    """Returns pairs of a file of the package and its text."""
    return [(path, path.read_text(encoding="utf-8")) for path in sorted(PACKAGE.rglob("*.py"))]


def nodes_of(kind):
    """Returns pairs of a file's name and a part of this kind in it."""
    parts = [(path.name, node) for path, text in sources() for node in ast.walk(ast.parse(text))]
    return [(name, node) for name, node in parts if isinstance(node, kind)]


def bound_names(function):
    """Returns the set of the names of the parameters and local variables of a function."""
    parts = list(ast.walk(function))
    stored = {part.id for part in parts if isinstance(part, ast.Name) and isinstance(part.ctx, ast.Store)}
    return stored | {part.arg for part in parts if isinstance(part, ast.arg)}


def defined(kind):
    """Returns the set of the names of all functions or classes of the package."""
    return {node.name for file, node in nodes_of(kind)}


def has_yield(function):
    return any(isinstance(part, (ast.Yield, ast.YieldFrom)) for part in ast.walk(function))


class LanguageTest(unittest.TestCase):
    def test_the_package_contains_only_python_files(self):
        found = [path for path in PACKAGE.rglob("*") if "__pycache__" not in path.parts]
        self.assertEqual([path for path in found if path.is_file() and path.suffix != ".py"], [])
        self.assertIn(PACKAGE / "__init__.py", found)

    def test_sizes_and_characters(self):
        for path, text in sources():
            with self.subTest(file=path.name):
                self.assertLessEqual(text.count("\n"), 400)
                self.assertLessEqual(max(len(line) for line in text.split("\n")), 120)
                self.assertEqual(re.findall(r"[^ -~\n]", text), [])

    def test_functions_are_short(self):
        for name, node in nodes_of(ast.FunctionDef):
            with self.subTest(file=name, function=node.name):
                self.assertLessEqual(node.end_lineno - node.lineno + 1, 40)

    def test_barred_words(self):
        for path, text in sources():
            with self.subTest(file=path.name):
                self.assertIsNone(BARRED.search(text))

    def test_imports_come_from_the_package(self):
        self.assertEqual([node for name, node in nodes_of(ast.Import)], [])
        for name, node in nodes_of(ast.ImportFrom):
            with self.subTest(file=name, line=node.lineno):
                self.assertEqual(node.level, 0)
                self.assertTrue(node.module.startswith("linkforests."))
                self.assertEqual([alias for alias in node.names if alias.name == "*"], [])

    def test_module_level(self):
        for path, text in sources():
            for node in ast.parse(text).body:
                with self.subTest(file=path.name, line=node.lineno):
                    self.assertIsInstance(node, STATEMENTS)

    def test_names(self):
        named = [(name, node.id) for name, node in nodes_of(ast.Name)]
        named += [(name, node.arg) for name, node in nodes_of(ast.arg)]
        named += [(name, node.attr) for name, node in nodes_of(ast.Attribute)]
        # The one exception is how a base class is set up.
        self.assertEqual([row for row in named if row[1].startswith("_") and row[1] != "__init__"], [])

    def test_local_names_have_no_other_meaning(self):
        for path, text in sources():
            tree = ast.parse(text)
            imported = {a.name for node in ast.walk(tree) if isinstance(node, ast.ImportFrom) for a in node.names}
            taken = imported | defined(ast.ClassDef) | set(dir(builtins))
            for node in ast.walk(tree):
                if isinstance(node, ast.FunctionDef):
                    with self.subTest(file=path.name, function=node.name):
                        self.assertEqual(bound_names(node) & taken, set())

    def test_imported_names_stand_in_the_file_that_defines_them(self):
        for name, node in nodes_of(ast.ImportFrom):
            text = (PACKAGE / f"{node.module.split('.')[-1]}.py").read_text(encoding="utf-8")
            for alias in node.names:
                with self.subTest(file=name, name=alias.name):
                    self.assertRegex(text, rf"(?m)^((def|class) {alias.name}\b|{alias.name} = )")

    def test_builtins(self):
        used = {node.id for name, node in nodes_of(ast.Name) if hasattr(builtins, node.id)}
        self.assertEqual(used - BUILTINS, set())

    def test_methods(self):
        own = defined(ast.FunctionDef)
        calls = [(name, node.func) for name, node in nodes_of(ast.Call) if isinstance(node.func, ast.Attribute)]
        self.assertEqual([(name, func.attr) for name, func in calls if func.attr not in own | METHODS], [])

    def test_methods_and_attributes_have_different_names(self):
        methods = {part.name for name, node in nodes_of(ast.ClassDef) for part in node.body if hasattr(part, "name")}
        stored = {node.attr for name, node in nodes_of(ast.Attribute) if isinstance(node.ctx, ast.Store)}
        self.assertEqual(methods & stored, set())

    def test_generators_are_iterated_at_once(self):
        generators = {node.name for name, node in nodes_of(ast.FunctionDef) if has_yield(node)}
        called = [node for name, node in nodes_of(ast.Call) if isinstance(node.func, ast.Name)]
        at_once = [node.value for name, node in nodes_of(ast.YieldFrom)]
        at_once += [node.iter for name, node in nodes_of((ast.For, ast.comprehension))]
        at_once += [node.args[0] for node in called if node.func.id in ("list", "tuple")]
        seen = [node.func.id for node in at_once if isinstance(node, ast.Call) and isinstance(node.func, ast.Name)]
        wanted = [node.func.id for node in called if node.func.id in generators]
        self.assertEqual(sorted(name for name in seen if name in generators), sorted(wanted))

    def test_files_do_not_import_each_other(self):
        above = {path.stem: set() for path, text in sources()}
        for name, node in nodes_of(ast.ImportFrom):
            above[name.removesuffix(".py")].add(node.module.split(".")[-1])
        for step in above:
            above = {name: found.union(*[above[other] for other in found]) for name, found in above.items()}
        self.assertEqual([name for name, found in above.items() if name in found], [])

    def test_decorators(self):
        for name, node in nodes_of((ast.FunctionDef, ast.ClassDef)):
            with self.subTest(file=name, line=node.lineno):
                found = [part.id for part in node.decorator_list]
                self.assertIn(found, ([], ["property"], ["classmethod"]))

    def test_properties_change_nothing(self):
        for name, node in nodes_of(ast.FunctionDef):
            if any(part.id == "property" for part in node.decorator_list):
                with self.subTest(file=name, property=node.name):
                    self.assertEqual([len(node.args.args), len(node.body)], [1, 2])
                    self.assertIsInstance(node.body[-1], ast.Return)

    def test_powers_have_plain_exponents(self):
        for name, node in nodes_of(ast.BinOp):
            if isinstance(node.op, ast.Pow):
                with self.subTest(file=name, line=node.lineno):
                    self.assertIsInstance(node.right, ast.Constant)
                    self.assertLessEqual(node.right.value, 64)

    def test_imported_names_are_used(self):
        for path, text in sources():
            parts = list(ast.walk(ast.parse(text)))
            imported = {alias.name for part in parts if isinstance(part, ast.ImportFrom) for alias in part.names}
            with self.subTest(file=path.name):
                self.assertEqual(imported - {part.id for part in parts if isinstance(part, ast.Name)}, set())

    def test_caught_errors_are_own_ones(self):
        own = defined(ast.ClassDef)
        for name, node in nodes_of(ast.ExceptHandler):
            with self.subTest(file=name, line=node.lineno):
                self.assertIn(node.type.id, own)

    def test_raised_errors_are_made_on_the_spot(self):
        own = defined(ast.ClassDef)
        for name, node in nodes_of(ast.Raise):
            if node.exc is not None:
                with self.subTest(file=name, line=node.lineno):
                    self.assertIn(node.exc.func.id, own)

    def test_sums_and_the_like_take_lists(self):
        generators = [node.lineno for name, node in nodes_of(ast.GeneratorExp)]
        self.assertEqual(generators, [])

    def test_no_name_is_a_property_and_an_attribute(self):
        stored = {node.attr for name, node in nodes_of(ast.Attribute) if isinstance(node.ctx, ast.Store)}
        for name, node in nodes_of(ast.FunctionDef):
            if any(part.id in ("property", "classmethod") for part in node.decorator_list):
                self.assertNotIn(node.name, stored)

    def test_is_stands_beside_constants(self):
        for name, node in nodes_of(ast.Compare):
            for sign, right in zip(node.ops, node.comparators):
                if isinstance(sign, (ast.Is, ast.IsNot)):
                    with self.subTest(file=name, line=node.lineno):
                        self.assertIsInstance(right, ast.Constant)
                        self.assertTrue(any(right.value is constant for constant in CONSTANTS))


if __name__ == "__main__":
    unittest.main()
