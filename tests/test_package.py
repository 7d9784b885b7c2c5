"""Rules for the files of the package: no clock, no random numbers, no files, and the plain rules of the language."""

import ast
import builtins
import re
import unittest
from pathlib import Path

PACKAGE = Path(__file__).resolve().parent.parent / "grainyard"
FILES = sorted(PACKAGE.glob("*.py"))

BUILTINS = set(
    "len range enumerate zip min max sum abs sorted reversed int str bool bytes list tuple dict set frozenset "
    "isinstance ord repr any all divmod iter next super property staticmethod classmethod "
    "Exception ValueError TypeError KeyError IndexError LookupError ZeroDivisionError ArithmeticError OverflowError "
    "RuntimeError NotImplementedError AttributeError StopIteration NotImplemented".split()
)
BARRED_WORDS = re.compile(
    r"\b(type|typing|typing_extensions|enum|Enum|IntEnum|StrEnum|Flag|IntFlag|Generic|Protocol|ABC|ABCMeta|namedtuple"
    r"|NamedTuple|TypedDict|TYPE_CHECKING|abstractmethod|register|mro|elements|open|input|law|version_info)\b"
    r"|dataclass|overload|contextmanager"
)
BARRED_NODES = (
    ast.Import,
    ast.Global,
    ast.AsyncFunctionDef,
    ast.AsyncFor,
    ast.AsyncWith,
    ast.Await,
    ast.Div,
    ast.MatMult,
)


def tree_of(path):
    return ast.parse(path.read_text("ascii"), str(path))


def nodes(*kinds):
    for path in FILES:
        for node in ast.walk(tree_of(path)):
            if isinstance(node, kinds):
                yield path, node


def names_bound(tree):
    """All names that a file binds somewhere."""
    found = set()
    for node in ast.walk(tree):
        if isinstance(node, (ast.FunctionDef, ast.ClassDef)):
            found.add(node.name)
        elif isinstance(node, ast.arg):
            found.add(node.arg)
        elif isinstance(node, ast.alias):
            found.add(node.asname or node.name)
        elif isinstance(node, ast.Name) and not isinstance(node.ctx, ast.Load):
            found.add(node.id)
        elif isinstance(node, ast.ExceptHandler) and node.name:
            found.add(node.name)
    return found


class PackageFiles(unittest.TestCase):
    def test_folder_holds_only_files_with_plain_names(self):
        for path in PACKAGE.iterdir():
            if path.name != "__pycache__":
                self.assertRegex(path.name, r"^(__init__|__main__|[a-z][a-z0-9_]*)\.py$")
        self.assertIn("__init__.py", [path.name for path in FILES])

    def test_characters_and_sizes(self):
        for path in FILES:
            lines = path.read_text("ascii").split("\n")
            self.assertLessEqual(len(lines), 400, path)
            for line in lines:
                self.assertRegex(line, r"^[ -~]{0,120}$", path)

    def test_functions_have_at_most_40_lines(self):
        for path, node in nodes(ast.FunctionDef):
            self.assertLessEqual(node.end_lineno - node.lineno + 1, 40, (path, node.name))

    def test_imports_come_from_the_package_only(self):
        for path, node in nodes(ast.ImportFrom):
            self.assertEqual(node.level, 0, path)
            self.assertTrue(node.module.startswith("grainyard."), (path, node.module))
            self.assertTrue((PACKAGE / f"{node.module.removeprefix('grainyard.')}.py").exists(), node.module)

    def test_statements_and_signs_that_are_not_used(self):
        self.assertEqual([(path.name, node.lineno) for path, node in nodes(*BARRED_NODES)], [])
        for path, node in nodes(ast.Constant):
            self.assertNotIsInstance(node.value, (float, complex), path)

    def test_names_that_are_read_are_bound_or_builtins(self):
        for path in FILES:
            tree = tree_of(path)
            known = names_bound(tree) | BUILTINS
            for node in ast.walk(tree):
                if isinstance(node, ast.Name) and isinstance(node.ctx, ast.Load):
                    self.assertIn(node.id, known, path)

    def test_no_builtin_gets_another_meaning(self):
        for path in FILES:
            self.assertEqual(names_bound(tree_of(path)) & set(dir(builtins)), set(), path)

    def test_names_are_plain(self):
        for path in FILES:
            for name in names_bound(tree_of(path)):
                self.assertRegex(name, r"^([A-Za-z][A-Za-z0-9_]*|__[a-z]+__)$", path)

    def test_words_that_do_not_occur(self):
        for path in FILES:
            self.assertIsNone(BARRED_WORDS.search(path.read_text("ascii")), path)

    def test_strings_hold_no_percent_sign(self):
        for path, node in nodes(ast.Constant):
            if isinstance(node.value, str):
                self.assertNotIn("%", node.value, path)


if __name__ == "__main__":
    unittest.main()
