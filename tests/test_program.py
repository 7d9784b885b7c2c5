"""Points [1] and [2] of the document over the whole program, and the names of the interface."""

import ast
import inspect
import re
import subprocess
import sys
import unittest
from importlib import import_module
from itertools import combinations
from pathlib import Path

from grainyard.console import Console
from grainyard.cutting import all_fit, can_cut, cut_out, heap_of_table, rest_of
from grainyard.fewest import few_sheets, fewest_sheets, rolls_of, single_sheets, strip_of
from grainyard.heaps import Heap, check_sheet, turned
from grainyard.lengths import added, check_root, compare, floor_of, is_length, product, scaled, sign
from grainyard.linking import difference, leads, linked, recipe_between, steps_between, strips
from grainyard.recipes import Recipe
from grainyard.squares import reduced, shows_no_squares, squares_of
from grainyard.steps import after, apply_steps, back_of, check_steps, is_step, walk
from grainyard.tables import Table, outer
from grainyard.tallies import CutTally, Journal, Tally
from grainyard.texts import heap_text, listing, pair_text, parse_heap, parse_pair, parse_sheet, parse_step
from grainyard.texts import sheet_text, step_text
from grainyard.tiles import coordinates, first_number, fractions, tile_lengths
from grainyard.yards import Yard, is_name
from tests.cases import Case
from tests.test_package import FILES

TOP = Path(__file__).resolve().parent.parent
PLAIN = {"turning": False}

FUNCTIONS = {
    "lengths": ["check_root(root)", "sign(pair, root)", "compare(one, other, root)", "is_length(pair, root)"]
    + ["added(*pairs)", "scaled(pair, number)", "product(one, other, root)", "floor_of(pair, root)"],
    "tiles": ["fractions(root, count)", "tile_lengths(root, number)", "coordinates(pair, root, number)"]
    + ["first_number(pairs, root)"],
    "tables": ["outer(one, other)"],
    "heaps": ["check_sheet(sheet, root)", "turned(sheet)"],
    "steps": ["is_step(step)", "check_steps(steps)", "back_of(step)", "after(heap, step, *, turning=False)"]
    + ["walk(heap, steps, *, turning=False)", "apply_steps(heap, steps, *, turning=False)"],
    "linking": ["strips(heap, number, *, turning=False)", "difference(one, other, *, turning=False)"]
    + ["linked(one, other, *, turning=False)", "steps_between(one, other, *, turning=False)"]
    + ["recipe_between(one, other, *, turning=False)", "leads(one, other, steps, *, turning=False)"],
    "cutting": ["heap_of_table(table, root)", "can_cut(heap, wanted, *, turning=False)"]
    + ["rest_of(heap, wanted, *, turning=False)", "cut_out(heap, wanted, *, turning=False)"]
    + ["all_fit(heap, *wanted, turning=False)"],
    "fewest": ["fewest_sheets(heap, *, turning=False)", "few_sheets(heap, *, turning=False)"]
    + ["single_sheets(heap, *, turning=False)", "strip_of(heap, width, *, turning=False)", "rolls_of(heap, one, other)"],
    "squares": ["reduced(form)", "squares_of(heap, *, turning=False)", "shows_no_squares(heap, reason, *, turning=False)"],
    "yards": ["is_name(text)"],
    "texts": ["pair_text(pair)", "sheet_text(sheet)", "heap_text(heap)", "step_text(step)", "parse_pair(text)"]
    + ["parse_sheet(text)", "parse_step(text)", "parse_heap(text)", "listing(heap)"],
}
CLASSES = {
    "tables.Table": ["(rows=((0, 0), (0, 0)))", "rows(self)", "area_for(self, root)", "marks(self, *, turning=False)"]
    + ["weight(self, pair)", "determinant(self)"],
    "heaps.Heap": ["(root, rows=())", "rows(self)", "count(self, sheet)", "table(self)"],
    "recipes.Recipe": ["(steps=(), *, turning=False)", "steps(self)"],
    "tallies.Tally": ["()", "note(self, step)", "counts(self)"],
    "tallies.Journal": ["()", "note(self, step)", "told(self)"],
    "tallies.CutTally": ["()", "note(self, step)", "told(self)"],
    "yards.Yard": ["(root, *, turning=False, depth=100)", "change_depth(self, value)", "do(self, deed)"]
    + ["do_all(self, deeds)", "undo(self)", "redo(self)", "names(self)", "orders(self)", "heap(self, name)"]
    + ["order(self, name)", "table(self)", "fillable(self, name, *orders)", "attach(self, tally)", "twin(self)"],
    "console.Console": ["(yard)", "yard(self)", "run(self, line)"],
}


class Interface(Case):
    def test_functions(self):
        for module_name, listed in FUNCTIONS.items():
            module = import_module(f"grainyard.{module_name}")
            for words in listed:
                name = words.split("(")[0]
                function = getattr(module, name)
                self.assertEqual(f"{name}{inspect.signature(function)}", words)
                self.assertEqual(function.__module__, f"grainyard.{module_name}")

    def test_classes(self):
        for place, (made, *methods) in CLASSES.items():
            module_name, name = place.split(".")
            kind = getattr(import_module(f"grainyard.{module_name}"), name)
            self.assertEqual(str(inspect.signature(kind)), made)
            self.assertEqual(kind.__module__, f"grainyard.{module_name}")
            for words in methods:
                method = vars(kind)[words.split("(")[0]]
                self.assertEqual(f"{method.__name__}{inspect.signature(method)}", words)


SHEET, OTHER = ((4, 0), (1, 1)), ((0, 1), (3, 0))
HEAP = Heap(2, [(SHEET, 3), (OTHER, 1)])
SAW = ("saw", SHEET, "across", (1, 0), 2)
TURN = ("turn", SHEET, 1)
WISH = Heap.of(2, ((1, 0), (1, 0)))
CALLS = [
    (check_root, {"root": 2}),
    (sign, {"pair": (-7, 5), "root": 2}),
    (compare, {"one": (0, 2), "other": (3, 0), "root": 2}),
    (is_length, {"pair": (3, -2), "root": 2}),
    (scaled, {"pair": (1, 2), "number": -3}),
    (product, {"one": (3, -2), "other": (3, 2), "root": 2}),
    (floor_of, {"pair": (0, -5), "root": 2}),
    (tile_lengths, {"root": 7, "number": 3}),
    (coordinates, {"pair": (4, -2), "root": 2, "number": 1}),
    (first_number, {"pairs": [(1, 0), (-7, 5)], "root": 2}),
    (outer, {"one": (1, 2), "other": (3, -1)}),
    (Table, {"rows": ((1, 2), (3, 4))}),
    (Table(((1, 2), (3, 4))).area_for, {"root": 3}),
    (Table(((1, 2), (3, 4))).weight, {"pair": (1, -1)}),
    (check_sheet, {"sheet": SHEET, "root": 2}),
    (turned, {"sheet": SHEET}),
    (Heap, {"root": 2, "rows": [(SHEET, 2)]}),
    (HEAP.count, {"sheet": SHEET}),
    (is_step, {"step": SAW}),
    (check_steps, {"steps": [SAW, TURN]}),
    (back_of, {"step": SAW}),
    (after, {"heap": HEAP, "step": SAW}),
    (apply_steps, {"heap": HEAP, "steps": [SAW]}),
    (Recipe, {"steps": [SAW]}),
    (Recipe([SAW]), {"heap": HEAP}),
    (strips, {"heap": HEAP, "number": 4}),
    (difference, {"one": HEAP, "other": WISH}),
    (linked, {"one": HEAP, "other": WISH}),
    (recipe_between, {"one": HEAP, "other": few_sheets(HEAP)}),
    (leads, {"one": HEAP, "other": HEAP, "steps": [SAW, back_of(SAW)]}),
    (heap_of_table, {"table": HEAP.table(), "root": 2}),
    (can_cut, {"heap": HEAP, "wanted": WISH}),
    (rest_of, {"heap": HEAP, "wanted": WISH}),
    (cut_out, {"heap": HEAP, "wanted": WISH}),
    (fewest_sheets, {"heap": HEAP}),
    (few_sheets, {"heap": HEAP}),
    (single_sheets, {"heap": WISH * 12}),
    (strip_of, {"heap": WISH * 12, "width": (3, 0)}),
    (rolls_of, {"heap": HEAP, "one": (1, 0), "other": (0, 1)}),
    (reduced, {"form": (5, 7, 10)}),
    (squares_of, {"heap": WISH * 12}),
    (shows_no_squares, {"heap": HEAP, "reason": (1, -1)}),
    (is_name, {"text": "oak"}),
    (pair_text, {"pair": (3, -1)}),
    (sheet_text, {"sheet": SHEET}),
    (heap_text, {"heap": HEAP}),
    (step_text, {"step": SAW}),
    (parse_pair, {"text": "3-1r"}),
    (parse_sheet, {"text": "3 x 1r"}),
    (parse_step, {"text": "turn 3 x 1r times 2"}),
    (parse_heap, {"text": "root 2\n1 3 x 1r\n"}),
    (listing, {"heap": HEAP}),
    (lambda **named: list(fractions(**named)), {"root": 2, "count": 5}),
    (lambda **named: list(walk(**named)), {"heap": HEAP, "steps": [SAW]}),
    (lambda **named: list(steps_between(**named)), {"one": HEAP, "other": HEAP}),
]


class GeneralRules(Case):
    def test_calls_by_position_and_by_name(self):
        for call, named in CALLS:
            if getattr(call, "__name__", "") != "<lambda>":
                expected = call(*named.values())
                self.assertEqual(call(**named), expected)
                self.assertEqual(call(**dict(reversed(named.items()))), expected)
                names = list(named)
                for many in range(1, len(names)):
                    rest = {name: named[name] for name in names[many:]}
                    self.assertEqual(call(*[named[name] for name in names[:many]], **rest), expected)

    def test_calls_by_name_of_generators(self):
        self.assertEqual(list(fractions(2, count=5)), list(fractions(count=5, root=2)))
        self.assertEqual(list(walk(HEAP, steps=[SAW])), list(walk(steps=[SAW], heap=HEAP)))
        self.assertEqual(list(steps_between(HEAP, other=HEAP)), list(steps_between(other=HEAP, one=HEAP)))

    def test_the_same_again(self):
        for call, named in CALLS:
            self.assertEqual(call(**named), call(**named))

    def test_a_tuple_instead_of_a_list(self):
        for call, named in CALLS:
            if any(isinstance(item, list) for item in named.values()):
                other = {name: tuple(item) if isinstance(item, list) else item for name, item in named.items()}
                self.assertEqual(call(**other), call(**named))
        for deeds in [[("order", "door", [(SHEET, 1)])], (("order", "door", ((SHEET, 1),)),)]:
            yard = Yard(2)
            yard.do_all(deeds)
            self.assertEqual(yard.order("door"), Heap.of(2, SHEET))

    def test_arguments_stay(self):
        for call, named in CALLS:
            before = {name: list(item) if isinstance(item, list) else item for name, item in named.items()}
            rows = {name: item.rows() for name, item in named.items() if isinstance(item, (Heap, Table))}
            call(**named)
            self.assertEqual(named, before)
            self.assertEqual({name: named[name].rows() for name in rows}, rows)

    def test_returned_lists_are_new(self):
        for call, named in CALLS:
            found = call(**named)
            if isinstance(found, list):
                expected = list(found)
                found.append("more")
                self.assertEqual(call(**named), expected)

    def test_parameters_by_name_only(self):
        for call, named in CALLS:
            if "turning" in inspect.signature(call).parameters:
                self.assertRaises(TypeError, call, *named.values(), True)
                self.assertEqual(call(*named.values(), **PLAIN), call(*named.values()))
        self.assertIs(all_fit(HEAP, WISH, turning=True), True)
        self.assertEqual(added((1, 2), (3, 4)), (4, 6))

    def test_returned_values_passed_back(self):
        heap = WISH
        for _ in range(20):
            heap = few_sheets(heap * 10**20) + HEAP
        recipe, rest = cut_out(heap, Heap.of(2, heap.rows()[0][0]))
        self.assertEqual(recipe(heap) - rest, Heap.of(2, heap.rows()[0][0]))
        self.assertEqual((-recipe)(recipe(heap)), heap)
        self.assertIs(leads(heap, recipe(heap), recipe.steps()), True)
        yard = Yard(2)
        yard.do_all([("bring", "oak", *row) for row in heap.rows()] + [("order", "door", rest.rows())])
        yard.do_all([("step", "oak", step) for step in recipe.steps()])
        self.assertIs(yard.fillable("oak", "door"), True)
        yard.do(("fill", "door", "oak"))
        self.assertIs(linked(yard.heap("oak") + rest, heap), True)
        for step in recipe.steps():
            self.assertIn(f"times {step[-1]}", step_text(step))
        self.assertEqual(heap_text(heap).count("\n"), len(heap) + 1)

    def test_objects_keep_copies(self):
        rows, steps, deeds = [(SHEET, 1)], [SAW], [("bring", "oak", SHEET, 1)]
        heap, recipe, yard = Heap(2, rows), Recipe(steps), Yard(2)
        yard.do_all(deeds)
        rows.clear()
        steps.clear()
        deeds.clear()
        self.assertEqual((heap.rows(), recipe.steps(), yard.names()), ([(SHEET, 1)], [SAW], ["oak"]))

    def test_objects_at_their_making(self):
        made = [Tally().notes, Journal().notes, CutTally().notes, CutTally().sawn, len(Console(Yard(2)))]
        self.assertEqual(made, [0, 0, 0, (0, 0), 0])


class Surroundings(Case):
    def test_no_module_from_outside(self):
        for path in FILES:
            for node in ast.walk(ast.parse(path.read_text("ascii"))):
                self.assertNotIsInstance(node, ast.Import)
                if isinstance(node, ast.ImportFrom):
                    self.assertRegex(node.module, r"^grainyard\.[a-z]+$")

    def test_the_same_in_another_process(self):
        # A text's hash differs from process to process; nothing may depend on it.
        lines = "from tests.test_program import CALLS\nfor call, named in CALLS:\n    found = call(**named)\n"
        lines += "    print(found.rows() if hasattr(found, 'rows') else found.steps() if hasattr(found, 'steps') else found)\n"
        answers = set()
        for seed in "123":
            environment = {"PYTHONHASHSEED": seed, "PYTHONPATH": str(TOP), "PYTHONDONTWRITEBYTECODE": "1"}
            command = [sys.executable, "-c", lines]
            done = subprocess.run(command, cwd=TOP, env=environment, capture_output=True, text=True, check=True)
            answers.add(re.sub("0x[0-9a-f]+", "", done.stdout))
        self.assertEqual(len(answers), 1)

    def test_modules_by_themselves(self):
        names = [path.stem for path in FILES if path.stem != "__init__"]
        self.assertEqual(len(names), 16)
        for name in names:
            lines = f"import sys; before = set(sys.modules); import grainyard.{name}; print(set(sys.modules) - before)"
            done = subprocess.run([sys.executable, "-S", "-c", lines], cwd=TOP, capture_output=True, text=True, check=True)
            for found in re.findall("'([^']+)'", done.stdout):
                self.assertRegex(found, r"^grainyard(\.[a-z]+)?$")

    def test_no_error_class_is_a_base_of_another_one(self):
        errors = import_module("grainyard.errors")
        kinds = [item for item in vars(errors).values() if isinstance(item, type) and item.__module__ == errors.__name__]
        leaves = [kind for kind in kinds if kind.__name__ not in ("GrainError", "GrainMissing")]
        self.assertEqual(len(leaves), 22)
        for one, other in combinations(leaves, 2):
            self.assertFalse(issubclass(one, other) or issubclass(other, one))


if __name__ == "__main__":
    unittest.main()
