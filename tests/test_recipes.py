"""Recipes: the interface's section on them."""

import unittest
from itertools import product as all_of

from grainyard.errors import BadCount, BadStep, NoSheet
from grainyard.heaps import Heap
from grainyard.recipes import Recipe
from grainyard.steps import apply_steps, back_of
from tests.cases import Case
from tests.models import random_runs, rows_of
from tests.samples import SOME_ROOTS, TWENTY_DIGITS

SHEET = ((4, 2), (1, 0))
SPLIT = ("split", SHEET, "across", 2, 1)
STACK = ("stack", ((2, 1), (1, 0)), "along", 2, 1)
SAW = ("saw", ((2, 1), (2, 0)), "along", (1, 0), 1)
GLUE = ("glue", ((2, 1), (1, 0)), ((2, 1), (1, 0)), "along", 1)
TURN = ("turn", ((2, 1), (2, 0)), 1)
LISTS = [[], [SPLIT], [SPLIT, STACK], [SPLIT, STACK, SAW, GLUE], [STACK, STACK, SPLIT]]
TURNING_LISTS = LISTS + [[TURN], [SPLIT, STACK, TURN]]
NO_STEPS = [(), ("turn",), ("turn", SHEET, 0), ("split", SHEET, "along", 2, 1), (SHEET, "turn", 1), ("weld", SHEET, 1)]


def some_recipes():
    """Pairs of a list of steps and of turning that are recipes."""
    return [(steps, False) for steps in LISTS] + [(steps, True) for steps in TURNING_LISTS]


def runs():
    """Runs with and without turning: turning, the heap at the start, the steps, and the heap behind them."""
    for turning in [False, True]:
        for root, first, steps, counters in random_runs(SOME_ROOTS, turning):
            yield turning, Heap(root, rows_of(first)), steps, Heap(root, rows_of(counters[-1]))


class Interface(Case):
    def test_example(self):
        split = ("split", ((2, 4), (1, 0)), "across", 2, 1)
        recipe = Recipe([split, ("stack", ((1, 2), (1, 0)), "along", 2, 1)])
        self.assertEqual(recipe(Heap.of(3, ((2, 4), (1, 0)))).rows(), [(((1, 2), (2, 0)), 1)])
        back = [("split", ((1, 2), (2, 0)), "along", 2, 1), ("stack", ((1, 2), (1, 0)), "across", 2, 1)]
        self.assertEqual((-recipe).steps(), back)
        self.assertEqual((recipe * 3).steps()[1], ("stack", ((1, 2), (1, 0)), "along", 2, 3))
        self.assertEqual(len(recipe + -recipe), 4)

    def test_defined_there(self):
        self.assertEqual(Recipe.__module__, "grainyard.recipes")
        for name in ["steps", "turning"]:
            self.assertIn(name, vars(Recipe))

    def test_arguments_by_name(self):
        self.assertEqual(Recipe(turning=True, steps=[TURN]), Recipe([TURN], turning=True))
        self.assertEqual(Recipe(steps=[SPLIT]), Recipe([SPLIT]))
        self.assertEqual(Recipe([SPLIT])(heap=Heap.of(2, SHEET)), Recipe([SPLIT])(Heap.of(2, SHEET)))

    def test_turning_by_name_only(self):
        self.assertRaises(TypeError, Recipe, [TURN], True)


class Building(Case):
    def test_steps_and_turning(self):
        for steps, turning in some_recipes():
            for passed in [steps, tuple(steps)]:
                recipe = Recipe(passed, turning=turning)
                self.assertEqual(recipe.steps(), steps)
                self.assertIs(type(recipe.steps()), list)
                self.assertIs(recipe.turning, turning)
                self.assertEqual(len(recipe), len(steps))
                self.assertEqual(repr(recipe), f"Recipe({len(steps)} steps)")

    def test_defaults(self):
        self.assertEqual((Recipe().steps(), Recipe().turning, len(Recipe())), ([], False, 0))
        self.assertEqual((Recipe([SPLIT]).turning, Recipe(turning=True).turning), (False, True))
        self.assertEqual([repr(Recipe()), repr(Recipe([SPLIT]))], ["Recipe(0 steps)", "Recipe(1 steps)"])

    def test_many_steps(self):
        recipe = Recipe([SPLIT] * 200)
        self.assertEqual((len(recipe), repr(recipe)), (200, "Recipe(200 steps)"))

    def test_index_of_the_first_item_that_is_no_step(self):
        for wrong, place, turning in all_of(NO_STEPS, range(5), [False, True]):
            steps = LISTS[3][:place] + [wrong] + LISTS[3][place:]
            for passed in [steps, tuple(steps), [*steps, wrong], [*steps, TURN]]:
                self.assertEqual(self.fails(BadStep, Recipe, passed, turning=turning), {"at": place})

    def test_a_turn_that_is_not_allowed(self):
        for place in range(5):
            steps = LISTS[3][:place] + [TURN] + LISTS[3][place:]
            for passed in [steps, tuple(steps), [*steps, TURN], [*steps, ()]]:
                self.assertEqual(self.fails(BadStep, Recipe, passed), {"at": place})
                self.assertEqual(self.fails(BadStep, Recipe, passed, turning=False), {"at": place})
            self.assertEqual(Recipe(steps, turning=True).steps(), steps)

    def test_steps_that_fit_no_heap_are_steps(self):
        steps = [("saw", SHEET, "across", (-5, 0), 1), ("turn", ((0, 0), (-1, 0)), 2)]
        self.assertEqual(Recipe(steps, turning=True).steps(), steps)

    def test_lists_that_are_changed_after_the_call(self):
        steps = [SPLIT, STACK]
        recipe = Recipe(steps)
        steps.append(())
        steps[0] = TURN
        self.assertEqual((recipe.steps(), len(recipe)), ([SPLIT, STACK], 2))

    def test_returned_list_is_new(self):
        recipe = Recipe([SPLIT, STACK])
        recipe.steps().clear()
        self.assertEqual(recipe.steps(), [SPLIT, STACK])
        self.assertIsNot(recipe.steps(), recipe.steps())

    def test_turning_is_not_assigned(self):
        self.assertIsInstance(vars(Recipe)["turning"], property)
        self.assertRaises(AttributeError, setattr, Recipe(), "turning", True)


class Equality(Case):
    def test_by_steps_and_turning(self):
        for one, other in all_of(some_recipes(), repeat=2):
            first, second = Recipe(one[0], turning=one[1]), Recipe(tuple(other[0]), turning=other[1])
            self.assertIs(first == second, one == other)
            self.assertIs(first != second, one != other)

    def test_order_and_copies_count(self):
        self.assertNotEqual(Recipe([SPLIT, STACK]), Recipe([STACK, SPLIT]))
        self.assertNotEqual(Recipe([SPLIT]), Recipe([SPLIT[:-1] + (2,)]))

    def test_equal_to_nothing_else(self):
        for steps, turning in some_recipes():
            recipe = Recipe(steps, turning=turning)
            for thing in [steps, tuple(steps), None, 0, True, False, "", {}, Heap(2), Recipe, repr(recipe)]:
                self.assertIs(recipe == thing, False)
                self.assertIs(thing == recipe, False)
                self.assertIs(recipe != thing, True)


class Calling(Case):
    def test_heap_after_all_steps(self):
        for turning, heap, steps, last in runs():
            rows = heap.rows()
            recipe = Recipe(steps, turning=turning)
            self.assertEqual(recipe(heap), last)
            self.assertEqual(recipe(heap), apply_steps(heap, steps, turning=turning))
            self.assertEqual((heap.rows(), recipe.steps()), (rows, steps))

    def test_no_steps(self):
        self.assertEqual(Recipe()(Heap.of(2, SHEET)), Heap.of(2, SHEET))
        self.assertEqual(Recipe(turning=True)(Heap(7)), Heap(7))

    def test_errors_of_apply_steps(self):
        recipe = Recipe([SPLIT, STACK, SAW])
        self.assertEqual(self.fails(NoSheet, recipe, Heap(2)), {"sheet": SHEET})
        self.assertEqual(self.fails(NoSheet, Recipe([SPLIT, SPLIT]), Heap.of(2, SHEET)), {"sheet": SHEET})
        wrong = ("saw", ((2, 1), (2, 0)), "along", (3, 0), 1)
        heap = Heap.of(2, SHEET)
        self.assertEqual(self.fails(BadStep, Recipe([SPLIT, STACK, wrong]), heap), {"at": 2})
        self.assertEqual(self.fails(BadStep, Recipe([wrong]), heap), {"at": 0})
        self.assertEqual(heap, Heap.of(2, SHEET))

    def test_turns(self):
        recipe = Recipe([SPLIT, STACK, TURN], turning=True)
        self.assertEqual(recipe(Heap.of(2, SHEET)), Heap.of(2, ((2, 0), (2, 1))))

    def test_called_twice(self):
        recipe = Recipe([SPLIT, STACK])
        self.assertEqual(recipe(Heap.of(2, SHEET)), recipe(Heap.of(2, SHEET)))


class Signs(Case):
    def test_sum(self):
        for one, other in all_of(some_recipes(), repeat=2):
            first, second = Recipe(one[0], turning=one[1]), Recipe(other[0], turning=other[1])
            self.assertEqual((first + second).steps(), one[0] + other[0])
            self.assertIs((first + second).turning, one[1] or other[1])
            self.assertEqual((first.steps(), first.turning), one)
            self.assertEqual((second.steps(), second.turning), other)

    def test_negative(self):
        for steps, turning in some_recipes():
            recipe = Recipe(steps, turning=turning)
            self.assertEqual((-recipe).steps(), [back_of(step) for step in reversed(steps)])
            self.assertIs((-recipe).turning, turning)
            self.assertEqual((recipe.steps(), recipe.turning), (steps, turning))
            self.assertEqual(-(-recipe), recipe)

    def test_negative_of_each_kind(self):
        recipe = Recipe([SPLIT, STACK, TURN, SAW, GLUE], turning=True)
        expected = [
            ("saw", ((2, 1), (2, 0)), "along", (1, 0), 1),
            ("glue", ((2, 1), (1, 0)), ((2, 1), (1, 0)), "along", 1),
            ("turn", ((2, 0), (2, 1)), 1),
            ("split", ((2, 1), (2, 0)), "along", 2, 1),
            ("stack", ((2, 1), (1, 0)), "across", 2, 1),
        ]
        self.assertEqual((-recipe).steps(), expected)

    def test_multiple(self):
        for steps, turning in some_recipes():
            recipe = Recipe(steps, turning=turning)
            for number in [1, 2, 12, TWENTY_DIGITS, 10**50]:
                multiple = recipe * number
                self.assertEqual(multiple.steps(), [step[:-1] + (step[-1] * number,) for step in steps])
                self.assertIs(multiple.turning, turning)
            self.assertEqual((recipe.steps(), recipe.turning), (steps, turning))

    def test_multiple_of_each_kind(self):
        recipe = Recipe([SPLIT[:-1] + (3,), STACK, TURN, SAW, GLUE[:-1] + (2,)], turning=True) * 5
        self.assertEqual([step[-1] for step in recipe.steps()], [15, 5, 5, 5, 10])
        self.assertEqual(recipe.steps()[0], ("split", SHEET, "across", 2, 15))

    def test_number_below_1(self):
        for number, (steps, turning) in all_of([0, -1, -2, -TWENTY_DIGITS], some_recipes()):
            recipe = Recipe(steps, turning=turning)
            self.assertEqual(self.fails(BadCount, lambda: recipe * number), {"number": number})

    def test_kinds(self):
        recipe = Recipe([SPLIT])
        for result in [recipe + recipe, -recipe, recipe * 2]:
            self.assertIs(type(result), Recipe)
            self.assertIs(type(result.steps()), list)
            self.assertIs(type(result.steps()[0]), tuple)

    def test_results_do_not_share_their_lists(self):
        recipe = Recipe([SPLIT])
        for result in [recipe + Recipe(), -recipe, recipe * 1]:
            result.steps().append(STACK)
            self.assertEqual((len(result), recipe.steps()), (1, [SPLIT]))


class FittingTogether(Case):
    def test_a_sum_is_one_after_the_other(self):
        for turning, heap, steps, last in runs():
            for place in [0, 1, 6, 12]:
                one, other = Recipe(steps[:place], turning=turning), Recipe(steps[place:], turning=turning)
                self.assertEqual(other(one(heap)), last)
                self.assertEqual((one + other)(heap), last)

    def test_a_negative_undoes(self):
        for turning, heap, steps, last in runs():
            recipe = Recipe(steps, turning=turning)
            self.assertEqual((-recipe)(last), heap)
            self.assertEqual((recipe + -recipe)(heap), heap)

    def test_a_multiple_fits_a_multiple_of_the_heap(self):
        for turning, heap, steps, last in runs():
            for number in [1, 2, TWENTY_DIGITS]:
                self.assertEqual((Recipe(steps, turning=turning) * number)(heap * number), last * number)

    def test_further_sheets_stay(self):
        for turning, heap, steps, last in runs():
            further = Heap(heap.root, [(SHEET, 3), (steps[0][1], 1)])
            self.assertEqual(Recipe(steps, turning=turning)(heap + further), last + further)

    def test_negatives_of_sums_and_multiples(self):
        for turning, _, steps, _ in runs():
            one, other = Recipe(steps[:5], turning=turning), Recipe(steps[5:], turning=turning)
            self.assertEqual(-(one + other), -other + -one)
            self.assertEqual(-(one * 7), -one * 7)
            self.assertEqual((one + other) * 3, one * 3 + other * 3)


if __name__ == "__main__":
    unittest.main()
