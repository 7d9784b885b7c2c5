"""Rules of the language for calls, stars, errors, sets, generators and double-underscore methods."""

import ast
import unittest

from tests.test_language import classes, methods_of
from tests.test_package import FILES, nodes, tree_of

LISTED = set(
    "append clear copy count endswith extend find get index insert isalnum isalpha isdigit islower isspace isupper "
    "items join keys ljust lower lstrip partition pop remove replace reverse rfind rjust rpartition rsplit rstrip "
    "setdefault split splitlines startswith strip update upper values zfill bit_length removeprefix removesuffix "
    "isascii".split()
)
KEYWORDS = {"sorted": {"key", "reverse"}, "min": {"key", "default"}, "max": {"key", "default"}, "zip": {"strict"}}
KEYWORDS |= {"sum": {"start"}, "enumerate": {"start"}}
BUILTIN_CALLS = set("len range enumerate zip min max sum abs sorted reversed int str bool list tuple dict set".split())
BUILTIN_CALLS |= set("isinstance ord repr any all divmod".split())
ITERATING = set("list tuple dict sorted sum min max any all enumerate zip".split())
LAZY = set("zip enumerate reversed range".split())
STARRED_PARTS = (ast.Name, ast.Attribute, ast.Constant, ast.List, ast.Tuple, ast.Dict, ast.Load)


def where(path, node):
    return f"{path.name}:{node.lineno}"


def all_defined(kind):
    return {node.name for _, node in nodes(kind)}


def own_methods():
    return {method.name for _, node in classes() for method in methods_of(node)}


def parents_of(tree):
    return {child: node for node in ast.walk(tree) for child in ast.iter_child_nodes(node)}


def generators():
    """The names of the functions with a yield of their own."""
    found = set()
    for _, node in nodes(ast.FunctionDef):
        if any(isinstance(part, (ast.Yield, ast.YieldFrom)) for part in ast.walk(node)):
            found.add(node.name)
    return found


def called_name(node):
    return node.func.id if isinstance(node, ast.Call) and isinstance(node.func, ast.Name) else None


def is_iterated(node, parent):
    """Whether a call stands where it is iterated on the spot."""
    if isinstance(parent, (ast.For, ast.comprehension)):
        return parent.iter == node
    return isinstance(parent, ast.YieldFrom) or called_name(parent) in ITERATING


class Calls(unittest.TestCase):
    def test_methods_are_own_or_listed(self):
        own = own_methods()
        for path, node in nodes(ast.Call):
            if isinstance(node.func, ast.Attribute):
                self.assertIn(node.func.attr, own | LISTED, where(path, node))

    def test_attributes_that_are_read_are_assigned(self):
        known = own_methods() | LISTED | {"setter"}
        for _, node in nodes(ast.Attribute):
            if not isinstance(node.ctx, ast.Load):
                known.add(node.attr)
        for _, node in classes():
            for item in node.body:
                if isinstance(item, ast.Assign):
                    known.add(item.targets[0].id)
        for path, node in nodes(ast.Attribute):
            self.assertIn(node.attr, known, where(path, node))

    def test_keywords_of_builtins(self):
        for path, node in nodes(ast.Call):
            if called_name(node) in BUILTIN_CALLS:
                for keyword in node.keywords:
                    self.assertIn(keyword.arg, KEYWORDS.get(node.func.id, set()), where(path, node))

    def test_methods_named_like_those_of_builtins_take_no_keywords(self):
        for path, node in nodes(ast.Call):
            if isinstance(node.func, ast.Attribute) and node.func.attr in LISTED:
                self.assertEqual(node.keywords, [], where(path, node))

    def test_what_stands_behind_a_star(self):
        for path, node in nodes(ast.Call):
            for item in node.args:
                if isinstance(item, ast.Starred):
                    for part in ast.walk(item.value):
                        self.assertIsInstance(part, STARRED_PARTS, where(path, node))

    def test_builtins_are_called_and_not_stored(self):
        for path in FILES:
            tree = tree_of(path)
            parents = parents_of(tree)
            for node in ast.walk(tree):
                if isinstance(node, ast.Name) and node.id in BUILTIN_CALLS:
                    parent = parents[node]
                    named = isinstance(parent, ast.Call) and (parent.func == node or called_name(parent) == "isinstance")
                    self.assertTrue(named, where(path, node))

    def test_classes_are_called_or_named_in_their_places(self):
        names = all_defined(ast.ClassDef)
        places = (ast.Call, ast.ClassDef, ast.ExceptHandler, ast.Attribute, ast.Raise)
        for path in FILES:
            tree = tree_of(path)
            parents = parents_of(tree)
            for node in ast.walk(tree):
                if isinstance(node, ast.Name) and node.id in names:
                    parent = parents[node]
                    if isinstance(parent, ast.Tuple):
                        parent = parents[parent]
                    self.assertIsInstance(parent, places, where(path, node))


class Iteration(unittest.TestCase):
    def test_generators_are_iterated_at_once(self):
        names = generators()
        self.assertLessEqual({"fractions", "walk", "steps_between"}, names)
        for path in FILES:
            tree = tree_of(path)
            parents = parents_of(tree)
            for node in ast.walk(tree):
                if called_name(node) in names:
                    self.assertTrue(is_iterated(node, parents[node]), where(path, node))

    def test_views_and_ranges_are_iterated_at_once(self):
        for path in FILES:
            tree = tree_of(path)
            parents = parents_of(tree)
            for node in ast.walk(tree):
                view = isinstance(node, ast.Call) and getattr(node.func, "attr", None) in {"items", "keys", "values"}
                if view or called_name(node) in LAZY:
                    tested = called_name(node) == "range" and isinstance(parents[node], ast.Compare)
                    self.assertTrue(tested or is_iterated(node, parents[node]), where(path, node))

    def test_aggregates_take_no_generator(self):
        names = generators()
        for path, node in nodes(ast.Call):
            if called_name(node) in {"sum", "min", "max", "sorted", "any", "all"}:
                for item in node.args:
                    self.assertNotIn(called_name(item), names, where(path, node))

    def test_no_sort_in_place(self):
        for path, node in nodes(ast.Attribute):
            self.assertNotEqual(node.attr, "sort", where(path, node))

    def test_sets_stand_in_their_places(self):
        for path in FILES:
            tree = tree_of(path)
            parents = parents_of(tree)
            for node in ast.walk(tree):
                if called_name(node) == "set" or isinstance(node, (ast.Set, ast.SetComp)):
                    parent = parents[node]
                    placed = called_name(parent) in {"sorted", "len"} or isinstance(parent, ast.Compare)
                    self.assertTrue(placed, where(path, node))


class Errors(unittest.TestCase):
    def test_only_own_errors_are_caught(self):
        own = all_defined(ast.ClassDef)
        for path, node in nodes(ast.ExceptHandler):
            self.assertIsNotNone(node.type, where(path, node))
            listed = node.type.elts if isinstance(node.type, ast.Tuple) else [node.type]
            self.assertLessEqual({item.id for item in listed}, own, where(path, node))

    def test_raise_creates_its_error_on_the_spot(self):
        own = all_defined(ast.ClassDef) | {"TypeError"}
        for path, node in nodes(ast.Raise):
            self.assertIn(called_name(node.exc), own, where(path, node))
            self.assertIsNone(node.cause, where(path, node))

    def test_caught_errors_give_their_own_attributes_only(self):
        for path, node in nodes(ast.ExceptHandler):
            for part in ast.walk(node):
                if isinstance(part, ast.Attribute) and getattr(part.value, "id", None) == node.name:
                    self.assertEqual(part.attr, "word", where(path, node))


class Signs(unittest.TestCase):
    def test_is_only_with_none_true_and_false(self):
        for path, node in nodes(ast.Compare):
            for operator, item in zip(node.ops, node.comparators):
                if isinstance(operator, (ast.Is, ast.IsNot)):
                    self.assertIsInstance(item, ast.Constant, where(path, node))
                    self.assertIn(item.value, (None, True, False))

    def test_exponents_are_literal(self):
        for path, node in nodes(ast.BinOp):
            if isinstance(node.op, ast.Pow):
                self.assertIsInstance(node.right, ast.Constant, where(path, node))
                self.assertIn(node.right.value, range(65))

    def test_escapes(self):
        for path in FILES:
            for line in path.read_text("ascii").split("\n"):
                for at, sign in enumerate(line):
                    if sign == "\\":
                        self.assertIn(line[at + 1], 'nt\\"' + "'", path)

    def test_len_and_repr(self):
        for path, node in classes():
            for method in methods_of(node):
                if method.name == "__len__":
                    self.assertEqual(called_name(method.body[-1].value), "len", where(path, node))
                if method.name == "__repr__":
                    self.assertIsInstance(method.body[-1].value, ast.JoinedStr, where(path, node))

    def test_defaults_are_plain(self):
        for path, node in nodes(ast.FunctionDef):
            for default in node.args.defaults + [item for item in node.args.kw_defaults if item]:
                self.assertIsInstance(default, (ast.Constant, ast.Tuple), where(path, node))


if __name__ == "__main__":
    unittest.main()
