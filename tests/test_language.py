"""Rules of the language for classes with operators, for names and for imports."""

import ast
import builtins
import unittest

from tests.test_package import FILES, nodes, tree_of

BINARY = "add sub mul floordiv mod pow and or xor lshift rshift".split()
PARAMETERS = {f"__{name}__": ["self", "other"] for name in ["eq", "ne", "lt", "le", "gt", "ge", *BINARY]}
PARAMETERS |= {f"__{name}__": ["self"] for name in "neg pos invert abs bool len repr str iter".split()}
PARAMETERS |= {"__contains__": ["self", "x"], "__getitem__": ["self", "at"], "__setitem__": ["self", "at", "worth"]}
FREE = {"__init__", "__call__"}
CHANGING = set("append clear extend insert pop remove reverse setdefault update sort add discard".split())


def classes():
    return [(path, node) for path, node in nodes(ast.ClassDef)]


def methods_of(node):
    return [item for item in node.body if isinstance(item, ast.FunctionDef)]


def decorators_of(function):
    return [item.id for item in function.decorator_list if isinstance(item, ast.Name)]


def is_setter(function):
    return any(isinstance(item, ast.Attribute) and item.attr == "setter" for item in function.decorator_list)


def attributes_assigned(node):
    return {
        part.attr for part in ast.walk(node) if isinstance(part, ast.Attribute) and not isinstance(part.ctx, ast.Load)
    }


def functions_by_name():
    """All functions and methods of the package; a class stands for its __init__."""
    found = {}
    for _, node in nodes(ast.FunctionDef):
        found.setdefault(node.name, []).append(node)
    for _, node in classes():
        found[node.name] = [method for method in methods_of(node) if method.name == "__init__"]
    return found


def names_called(function):
    for node in ast.walk(function):
        if isinstance(node, ast.Call):
            yield node.func.id if isinstance(node.func, ast.Name) else node.func.attr


def functions_of_operators():
    """The functions that must change nothing: operators, properties and their like, and all that these call."""
    waiting = []
    for _, node in classes():
        for method in methods_of(node):
            if method.name in PARAMETERS or "property" in decorators_of(method):
                waiting.append(method)
    known, reached = functions_by_name(), []
    while waiting:
        function = waiting.pop()
        if function not in reached:
            reached.append(function)
            for name in names_called(function):
                waiting += known.get(name, [])
    return reached


def is_stored(node):
    return isinstance(node, ast.Name) and isinstance(node.ctx, ast.Store)


def created_in(function):
    """The local names that are assigned nothing but a list or dict that is created on the spot."""
    found, others = set(), set()
    for node in ast.walk(function):
        if isinstance(node, ast.Assign):
            names = {part.id for target in node.targets for part in ast.walk(target) if is_stored(part)}
            fresh = isinstance(node.value, (ast.List, ast.Dict, ast.ListComp))
            (found if fresh else others).update(names)
    return found - others


class Operators(unittest.TestCase):
    def test_double_underscore_methods_have_the_listed_parameters(self):
        for path, node in classes():
            for method in methods_of(node):
                if method.name.startswith("__") and method.name not in FREE:
                    self.assertEqual([arg.arg for arg in method.args.args], PARAMETERS[method.name], (path, node.name))
                    self.assertEqual(method.decorator_list + method.args.defaults, [])

    def test_what_operators_call_changes_nothing(self):
        reached = functions_of_operators()
        self.assertLessEqual({"__add__", "added", "merged", "area_for", "back_of"}, {item.name for item in reached})
        for function in reached:
            fresh = created_in(function)
            for node in ast.walk(function):
                self.assertNotIsInstance(node, (ast.AugAssign, ast.Delete, ast.Nonlocal), function.name)
                if isinstance(node, ast.Attribute) and not isinstance(node.ctx, ast.Load):
                    self.assertEqual((function.name, node.value.id), ("__init__", "self"))
                if isinstance(node, ast.Subscript) and not isinstance(node.ctx, ast.Load):
                    self.assertIn(node.value.id, fresh, function.name)
                if isinstance(node, ast.Call) and isinstance(node.func, ast.Attribute) and node.func.attr in CHANGING:
                    self.assertIn(node.func.value.id, fresh, function.name)

    def test_equality_in_the_one_form(self):
        for path, node in classes():
            for method in methods_of(node):
                if method.name == "__eq__":
                    self.assertEqual(len(method.body), 1, path)
                    first, *others = [ast.unparse(part) for part in method.body[0].value.values]
                    self.assertEqual(first, f"isinstance(other, {node.name})", path)
                    for words in others:
                        self.assertRegex(words, r"^self\.([a-z_]+) == other\.\1$", path)

    def test_lists_instead_of_generator_expressions(self):
        self.assertEqual([(path.name, node.lineno) for path, node in nodes(ast.GeneratorExp)], [])

    def test_a_class_with_indexes_is_not_iterated_by_them(self):
        for path, node in classes():
            names = {method.name for method in methods_of(node)}
            if "__getitem__" in names:
                self.assertIn("__iter__", names, (path, node.name))


class Names(unittest.TestCase):
    def test_no_name_is_a_method_and_an_attribute(self):
        methods, attributes = set(), set()
        setters = set()
        for _, node in classes():
            methods |= {method.name for method in methods_of(node)}
            setters |= {method.name for method in methods_of(node) if is_setter(method)}
            attributes |= attributes_assigned(node)
        self.assertEqual(methods & attributes - setters, set())

    def test_properties_share_no_name_with_methods(self):
        properties, methods = set(), set()
        for _, node in classes():
            for method in methods_of(node):
                special = "property" in decorators_of(method) or is_setter(method)
                (properties if special else methods).add(method.name)
        self.assertEqual(properties & methods, set())
        for builtin in [str, int, list, dict, set, bytes]:
            self.assertEqual(properties & set(dir(builtin)), set())

    def test_names_are_bound_once_at_module_level(self):
        for path in FILES:
            bound = []
            for node in tree_of(path).body:
                if isinstance(node, ast.ImportFrom):
                    bound += [alias.asname or alias.name for alias in node.names]
                elif isinstance(node, ast.Assign):
                    bound += [target.id for target in node.targets]
                elif isinstance(node, (ast.FunctionDef, ast.ClassDef)):
                    bound.append(node.name)
                else:
                    self.assertIsInstance(node, ast.Expr, path)
            self.assertEqual(len(bound), len(set(bound)), path)
            self.assertEqual(set(bound) & set(dir(builtins)), set(), path)

    def test_no_local_name_is_that_of_a_class_or_an_import(self):
        for path in FILES:
            tree = tree_of(path)
            taken = {alias.asname or alias.name for node in tree.body if hasattr(node, "names") for alias in node.names}
            taken |= {node.name for node in tree.body if isinstance(node, ast.ClassDef)}
            for function in ast.walk(tree):
                if isinstance(function, ast.FunctionDef):
                    local = {part.arg for part in ast.walk(function) if isinstance(part, ast.arg)}
                    for part in ast.walk(function):
                        if is_stored(part):
                            local.add(part.id)
                    self.assertEqual(local & taken, set(), (path, function.name))

    def test_generators_have_names_of_their_own(self):
        names = [node.name for _, node in nodes(ast.FunctionDef)]
        generators = [
            node.name
            for _, node in nodes(ast.FunctionDef)
            if any(isinstance(part, (ast.Yield, ast.YieldFrom)) for part in ast.walk(node))
        ]
        for name in generators:
            self.assertEqual(names.count(name), 1)


class Imports(unittest.TestCase):
    def test_imported_names_are_defined_in_the_very_file(self):
        defined = {}
        for path in FILES:
            defined[f"grainyard.{path.stem}"] = {node.name for node in tree_of(path).body if hasattr(node, "name")}
        for path, node in nodes(ast.ImportFrom):
            for alias in node.names:
                self.assertIn(alias.name, defined[node.module], path)

    def test_no_two_files_import_from_each_other(self):
        wanted = {path.stem: set() for path in FILES}
        for path, node in nodes(ast.ImportFrom):
            wanted[path.stem].add(node.module.removeprefix("grainyard."))
        while wanted:
            free = {name for name, needs in wanted.items() if not needs & set(wanted)}
            self.assertTrue(free, f"these import each other: {sorted(wanted)}")
            wanted = {name: needs for name, needs in wanted.items() if name not in free}

    def test_imports_stand_at_the_top(self):
        for path in FILES:
            body = tree_of(path).body
            last = max((at for at, node in enumerate(body) if isinstance(node, ast.ImportFrom)), default=0)
            for node in body[1:last]:
                self.assertIsInstance(node, ast.ImportFrom, path)


if __name__ == "__main__":
    unittest.main()
