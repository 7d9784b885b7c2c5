"""Strips and linked heaps: points [9] and [10] of the document, and [8] for lists of steps."""

import unittest
from collections import Counter
from itertools import product as all_of
from types import GeneratorType

from grainyard import linking
from grainyard.errors import BadCount, NotLinked, OtherRoot
from grainyard.heaps import Heap
from grainyard.linking import difference, leads, linked, recipe_between, steps_between, strips
from grainyard.recipes import Recipe
from grainyard.steps import apply_steps, back_of, walk
from grainyard.tiles import tile_lengths
from tests.cases import UNITS, Case, heaps_of_runs, marks_by_words, unit_heap
from tests.models import after_by_words, is_step_by_words, random_runs, rows_of, some_sheets, table_of
from tests.samples import ROOTS, SOME_ROOTS, TWENTY_DIGITS, expected_fractions, positive

ONE, OTHER = Heap.of(2, ((2, 0), (0, 3))), Heap.of(2, ((-1, 1), (0, 3)), ((3, -1), (0, 3)))
TURNED = Heap.of(2, ((0, 3), (2, 0)))
SAW = ("saw", ((2, 0), (0, 3)), "across", (-1, 1), 1)


def counter_of(heap):
    return Counter(dict(heap.rows()))


def applied_by_words(heap, steps, root, turning):
    """The Counter after steps, by the words of [7] and [8]; fails if one of them is not possible."""
    counter = counter_of(heap)
    for step in steps:
        assert is_step_by_words(step) and (turning or step[0] != "turn"), step
        counter = after_by_words(counter, step)
        for (across, along), count in counter.items():
            assert count > 0 and positive(across, root) and positive(along, root), step
    return counter


def tiles_by_words(root, number):
    """The tile lengths of [5]."""
    (p, q), (p1, q1) = expected_fractions(root, number + 2)[number:]
    return ((-p, q), (p1, -q1)) if number % 2 == 0 else ((p, -q), (-p1, q1))


def least_number(heap):
    """The least number by which all coordinates of the sides of a heap are at least 0, by the words of [5]."""
    sides = [side for sheet, _ in heap.rows() for side in sheet]
    fractions = expected_fractions(heap.root, 402)
    for number in range(401):
        near = fractions[number : number + 2]
        if all(a * q + b * p >= 0 for a, b in sides for p, q in near):
            return number
    raise AssertionError("no number is great enough")


def multiple_of(pair, unit):
    """The number k of at least 1 such that a pair is k times another one, or None."""
    (a, b), (c, e) = pair, unit
    k = a // c if c else b // e
    return k if k >= 1 and (c * k, e * k) == pair else None


class Interface(Case):
    def test_example(self):
        self.assertIs(linked(ONE, OTHER), True)
        self.assertEqual(recipe_between(ONE, OTHER)(ONE), OTHER)
        self.assertEqual(difference(ONE, TURNED), 1)
        self.assertIs(linked(ONE, TURNED, turning=True), True)

    def test_defined_there(self):
        for name in ["strips", "difference", "linked", "steps_between", "recipe_between", "leads"]:
            self.assertEqual(getattr(linking, name).__module__, "grainyard.linking")

    def test_arguments_by_name(self):
        for turning in [False, True]:
            named = {"other": OTHER, "turning": turning, "one": ONE}
            self.assertEqual(difference(**named), difference(ONE, OTHER, turning=turning))
            self.assertEqual(linked(**named), linked(ONE, OTHER, turning=turning))
            steps = list(steps_between(ONE, OTHER, turning=turning))
            self.assertEqual(list(steps_between(**named)), steps)
            self.assertEqual(recipe_between(**named), recipe_between(ONE, OTHER, turning=turning))
            self.assertIs(leads(steps=steps, **named), True)
            self.assertIs(leads(ONE, steps=steps[:-1], other=OTHER, turning=turning), False)
            expected = strips(ONE, 3, turning=turning)
            self.assertEqual(strips(number=3, turning=turning, heap=ONE), expected)
        self.assertEqual(difference(ONE, other=TURNED), 1)

    def test_turning_by_name_only(self):
        self.assertRaises(TypeError, strips, ONE, 3, True)
        for call in [difference, linked, steps_between, recipe_between]:
            self.assertRaises(TypeError, call, ONE, OTHER, True)
        self.assertRaises(TypeError, leads, ONE, OTHER, [SAW], True)


class Strips(Case):
    def check(self, heap, number, turning):
        """Check the steps for a heap and return the kinds of sheets, as indexes of tiles, to which they lead."""
        rows = heap.rows()
        steps = strips(heap, number, turning=turning)
        self.assertIs(type(steps), list)
        counter = applied_by_words(heap, steps, heap.root, turning)
        tiles = tiles_by_words(heap.root, number)
        kinds = []
        for (across, along), count in counter.items():
            self.assertEqual(count, 1)
            fitting = [at for at in (0, 1) if multiple_of(along, tiles[at])]
            self.assertEqual(len(fitting), 1)
            kinds.append((tiles.index(across), fitting[0]))
        self.assertEqual(len(kinds), len(set(kinds)))
        self.assertEqual(marks_by_words(table_of(counter), turning), heap.table().marks(turning=turning))
        if turning:
            self.assertNotIn((1, 0), kinds)
        self.assertEqual(heap.rows(), rows)
        return sorted(kinds)

    def test_heaps_of_several_rows_and_many_numbers(self):
        for turning in [False, True]:
            for root, first, _, counters in random_runs(SOME_ROOTS, turning):
                for heap in [Heap(root, rows_of(first)), Heap(root, rows_of(counters[-1]))]:
                    least = least_number(heap)
                    for number in sorted({least, least + 1, (least + 400) // 2, 400}):
                        self.check(heap, number, turning)

    def test_all_roots(self):
        for root in ROOTS:
            heap = Heap.of(root, *some_sheets(root)[:9:2])
            for turning in [False, True]:
                kinds = self.check(heap, least_number(heap) + root % 3, turning)
                self.assertEqual(kinds, [(0, 0), (0, 1), (1, 1)] if turning else [(0, 0), (0, 1), (1, 0), (1, 1)])

    def test_strips_of_few_kinds(self):
        e, f = tile_lengths(7, 5)
        expected = [[(0, 0)], [(0, 1)], [(1, 0)], [(1, 1)]]
        for sheet, kinds in zip([(e, e), (e, f), (f, e), (f, f)], expected):
            for count in [1, 2, 12]:
                self.assertEqual(self.check(Heap(7, [(sheet, count)]), 5, False), kinds)
                turned_kinds = [(0, 1)] if kinds == [(1, 0)] else kinds
                self.assertEqual(self.check(Heap(7, [(sheet, count)]), 5, True), turned_kinds)
        self.assertEqual(self.check(Heap.of(7, (e, f), (f, e)), 5, True), [(0, 1)])
        self.assertEqual(self.check(Heap.of(7, (e, f), (f, e)), 5, False), [(0, 1), (1, 0)])

    def test_sheets_that_are_met_on_the_way(self):
        e, f = tile_lengths(2, 3)
        both = (e[0] + 2 * f[0], e[1] + 2 * f[1])
        twice = (2 * f[0], 2 * f[1])
        sheets = [(e, e), (e, both), (both, both), (twice, both), (f, both), (f, e), (both, e), (e, twice)]
        for heap in [Heap.of(2, *sheets), Heap(2, [(sheet, at + 2) for at, sheet in enumerate(sheets)])]:
            for turning in [False, True]:
                self.check(heap, 3, turning)

    def test_200_rows(self):
        heap = Heap(3, [(((at + 1, 1), (1, at % 9 + 1)), at + 1) for at in range(200)])
        for turning in [False, True]:
            self.check(heap, 6, turning)

    def test_the_empty_heap(self):
        for number, turning in all_of([0, 1, 7, 400], [False, True]):
            self.assertEqual(strips(Heap(2), number, turning=turning), [])

    def test_numbers_out_of_range(self):
        for number in [-1, -2, 401, 402, 1000, TWENTY_DIGITS, -TWENTY_DIGITS]:
            for heap in [ONE, OTHER, Heap(2), Heap(61)]:
                for turning in [False, True]:
                    self.assertEqual(self.fails(BadCount, strips, heap, number, turning=turning), {"number": number})

    def test_negative_coordinates(self):
        seen = set()
        for root in SOME_ROOTS:
            for sheet in some_sheets(root):
                for heap in [Heap.of(root, sheet), Heap.of(root, UNITS[0], sheet)]:
                    least = least_number(heap)
                    for number in {0, least // 3, least // 2, least - 2, least - 1} - {-2, -1, least}:
                        seen.add(number)
                        self.assertEqual(self.fails(BadCount, strips, heap, number), {"number": number})
                        named = {"turning": True}
                        self.assertEqual(self.fails(BadCount, strips, heap, number, **named), {"number": number})
        self.assertGreaterEqual(len(seen), 8)

    def test_one_side_decides(self):
        good, bad = (1, 0), (-7, 5)
        for sheet in [(good, bad), (bad, good), (bad, bad)]:
            self.assertEqual(self.fails(BadCount, strips, Heap.of(2, sheet), 0), {"number": 0})
            self.check(Heap.of(2, sheet), 1, False)
        self.check(Heap.of(2, (good, good)), 0, False)

    def test_rows_in_another_order(self):
        for heaps in heaps_of_runs([2, 94], True):
            for heap in heaps:
                rows = heap.rows()
                for other in [Heap(heap.root, rows[::-1]), Heap(heap.root, rows[1:] + rows[:1])]:
                    for turning in [False, True]:
                        found = strips(other, 399, turning=turning)
                        self.assertEqual(found, strips(heap, 399, turning=turning))

    def test_returned_list_is_new(self):
        for heap in [ONE, Heap(2)]:
            first = strips(heap, 4)
            expected = list(first)
            first.append(SAW)
            self.assertEqual(strips(heap, 4), expected)


class Differences(Case):
    def test_heaps_that_are_linked_by_steps(self):
        for turning in [False, True]:
            for heaps in heaps_of_runs(SOME_ROOTS, turning):
                for one, other in all_of(heaps, repeat=2):
                    self.assertIsNone(difference(one, other, turning=turning))
                    self.assertIs(linked(one, other, turning=turning), True)
                    self.assertIs(linked(one, other, turning=True), True)

    def test_index_of_the_first_mark_that_differs(self):
        counts = list(all_of([0, 3], [0, 1, 2], [0, 1, 2], [0, TWENTY_DIGITS]))
        seen = set()
        for one, other in all_of(counts, repeat=2):
            first, second = unit_heap(3, *one), unit_heap(3, *other)
            for turning in [False, True]:
                marks = [marks_by_words((entries[:2], entries[2:]), turning) for entries in (one, other)]
                expected = next((at for at, (a, b) in enumerate(zip(*marks)) if a != b), None)
                self.assertEqual(difference(first, second, turning=turning), expected)
                self.assertIs(linked(first, second, turning=turning), expected is None)
                seen.add((turning, expected))
        self.assertEqual(len(seen), 9)

    def test_one_turned_sheet(self):
        for root in SOME_ROOTS:
            for sheet in some_sheets(root):
                one, other = Heap.of(root, sheet, UNITS[3]), Heap.of(root, sheet[::-1], UNITS[3])
                self.assertIsNone(difference(one, other, turning=True))
                (a, b), (c, e) = sheet
                self.assertEqual(difference(one, other), None if a * e == b * c else 1)

    def test_one_sheet_more(self):
        for heaps in heaps_of_runs([2, 61], True):
            for heap in heaps:
                for at, sheet in enumerate(UNITS):
                    self.assertEqual(difference(heap, heap + Heap.of(heap.root, sheet)), at)
                    found = difference(heap + Heap.of(heap.root, sheet), heap, turning=True)
                    self.assertEqual(found, [0, 1, 1, 2][at])

    def test_empty_heaps(self):
        for turning in [False, True]:
            self.assertIsNone(difference(Heap(2), Heap(2), turning=turning))
            self.assertIs(linked(Heap(2), ONE, turning=turning), False)
            self.assertIs(linked(ONE, Heap(2), turning=turning), False)

    def test_another_root(self):
        for turning in [False, True]:
            for one, other in [(ONE, Heap(3)), (Heap(3), ONE), (Heap(2), Heap(3)), (ONE, Heap(5, ONE.rows()))]:
                for call in [difference, linked, recipe_between]:
                    self.assertEqual(self.fails(OtherRoot, call, one, other, turning=turning), {})

    def test_kinds(self):
        self.assertIs(type(difference(ONE, TURNED)), int)
        self.assertIs(linked(ONE, TURNED), False)


class StepsBetween(Case):
    def check(self, one, other, turning):
        rows = one.rows(), other.rows()
        steps = list(steps_between(one, other, turning=turning))
        self.assertEqual(applied_by_words(one, steps, one.root, turning), counter_of(other))
        self.assertEqual(apply_steps(one, steps, turning=turning), other)
        self.assertLessEqual(len(steps), 40 * (len(one) + len(other)))
        self.assertIs(leads(one, other, steps, turning=turning), True)
        self.assertEqual((one.rows(), other.rows()), rows)
        recipe = recipe_between(one, other, turning=turning)
        self.assertIs(type(recipe), Recipe)
        self.assertEqual((recipe.steps(), recipe.turning), (steps, turning))
        return recipe

    def test_linked_heaps(self):
        for turning in [False, True]:
            for heaps in heaps_of_runs(SOME_ROOTS[::3], turning):
                for one, other in zip(heaps, heaps[2:] + heaps[:2]):
                    self.check(one, other, turning)
            for heaps in heaps_of_runs(SOME_ROOTS, turning):
                self.check(heaps[-1], heaps[0], True)

    def test_unit_heaps(self):
        for root in ROOTS:
            one = Heap(root, [(((3, 2), (5, 7)), 3)])
            other = unit_heap(root, 45, 63, 30, 42)
            self.check(one, other, False)
            self.check(other, one, True)
            self.check(one, unit_heap(root, 45, 0, 93, 42), True)

    def test_turned_sheets(self):
        for root in SOME_ROOTS:
            for sheet in some_sheets(root):
                one, other = Heap(root, [(sheet, 2), (UNITS[1], 1)]), Heap(root, [(sheet[::-1], 2), (UNITS[2], 1)])
                self.check(one, other, True)
                self.check(one, Heap.of(root, sheet, sheet[::-1], UNITS[1]), True)

    def test_200_rows(self):
        one = Heap(3, [(((at + 1, 1), (1, at % 9 + 1)), at + 1) for at in range(200)])
        (t00, t01), (t10, t11) = one.table().rows()
        self.check(one, unit_heap(3, t00, t01, t10, t11), False)
        self.check(unit_heap(3, t00, t10, t01, t11), one, True)

    def test_empty_heaps_and_equal_heaps(self):
        for turning in [False, True]:
            self.assertEqual(list(steps_between(Heap(2), Heap(2), turning=turning)), [])
            self.assertEqual(recipe_between(Heap(2), Heap(2), turning=turning), Recipe(turning=turning))
            for heap in [ONE, OTHER, TURNED, Heap(2, [(UNITS[1], TWENTY_DIGITS)])]:
                self.check(heap, heap, turning)
                self.check(heap, Heap(2, heap.rows()), turning)

    def test_each_when_it_is_asked_for(self):
        waiting = steps_between(ONE, OTHER)
        self.assertIsInstance(waiting, GeneratorType)
        heap = ONE
        for step in waiting:
            heap = apply_steps(heap, [step])
        self.assertEqual(heap, OTHER)
        self.assertEqual(next(steps_between(ONE, OTHER)), list(steps_between(ONE, OTHER))[0])
        pairs = list(zip(steps_between(ONE, OTHER), steps_between(ONE, OTHER)))
        self.assertEqual([one for one, _ in pairs], [other for _, other in pairs])

    def test_errors_when_it_is_iterated(self):
        for turning in [False, True]:
            for one, other in [(ONE, Heap(3)), (Heap(2), Heap(3)), (Heap(3, ONE.rows()), ONE)]:
                waiting = steps_between(one, other, turning=turning)
                self.assertEqual(self.fails(OtherRoot, next, waiting), {})
                self.assertEqual(self.fails(OtherRoot, recipe_between, one, other, turning=turning), {})

    def test_heaps_that_are_not_linked(self):
        for one, other in all_of(all_of([0, 1], [0, 2], [0, 2], [0, 1]), repeat=2):
            first, second = unit_heap(7, *one), unit_heap(7, *other)
            for turning in [False, True]:
                expected = difference(first, second, turning=turning)
                if expected is not None:
                    waiting = steps_between(first, second, turning=turning)
                    self.assertEqual(self.fails(NotLinked, next, waiting), {"number": expected})
                    found = self.fails(NotLinked, recipe_between, first, second, turning=turning)
                    self.assertEqual(found, {"number": expected})

    def test_recipes_back_and_multiples(self):
        for turning in [False, True]:
            for heaps in heaps_of_runs([2, 13, 99], turning):
                one, other = heaps[0], heaps[-1]
                recipe = recipe_between(one, other, turning=turning)
                self.assertEqual((-recipe)(other), one)
                self.assertEqual((recipe * 12)(one * 12), other * 12)
                self.assertEqual((recipe * TWENTY_DIGITS)(one * TWENTY_DIGITS), other * TWENTY_DIGITS)
                self.assertEqual((recipe + -recipe)(one), one)

    def test_equal_arguments_give_equal_steps(self):
        for heaps in heaps_of_runs([5], False):
            one, other = heaps[0], heaps[-1]
            again = Heap(5, one.rows()[::-1]), Heap(5, tuple(other.rows()))
            self.assertEqual(list(steps_between(one, other)), list(steps_between(*again)))


class Leads(Case):
    def test_changed_removed_and_repeated_steps(self):
        found = Counter()
        for turning in [False, True]:
            for root, first, steps, counters in random_runs([2, 7, 61], turning):
                one, other = Heap(root, rows_of(first)), Heap(root, rows_of(counters[-1]))
                self.assertIs(leads(one, other, steps, turning=turning), True)
                self.assertIs(leads(one, other, tuple(steps), turning=turning), True)
                for at, step in enumerate(steps):
                    changes = [[], [step, step], [step[:-1] + (step[-1] + 1,)], [back_of(step)], [()], [step[1:]]]
                    for changed in changes + [[step, back_of(step)], [step, back_of(step), step]]:
                        passed = steps[:at] + changed + steps[at + 1 :]
                        expected = self.leads_by_walk(one, other, passed, turning)
                        self.assertIs(leads(one, other, passed, turning=turning), expected)
                        found[expected] += 1
        self.assertGreater(found[True], 100)
        self.assertGreater(found[False], 1000)

    def leads_by_walk(self, one, other, steps, turning):
        try:
            heaps = [one, *walk(one, steps, turning=turning)]
        except (ValueError, LookupError):
            return False
        return heaps[-1].rows() == other.rows()

    def test_other_goals(self):
        self.assertIs(leads(ONE, OTHER, [SAW]), True)
        for goal in [ONE, TURNED, Heap(2), OTHER * 2, OTHER + ONE, Heap(3)]:
            self.assertIs(leads(ONE, goal, [SAW]), False)

    def test_no_steps(self):
        for heap in [ONE, OTHER, Heap(2)]:
            for steps in [[], ()]:
                self.assertIs(leads(heap, heap, steps), True)
                self.assertIs(leads(heap, heap, steps, turning=True), True)
                self.assertIs(leads(heap, heap + ONE, steps), False)

    def test_turns(self):
        turn = ("turn", ((2, 0), (0, 3)), 1)
        self.assertIs(leads(ONE, TURNED, [turn], turning=True), True)
        self.assertIs(leads(ONE, TURNED, [turn]), False)
        self.assertIs(leads(ONE, TURNED, [turn], turning=False), False)
        self.assertIs(leads(ONE, ONE, [turn, back_of(turn)], turning=True), True)
        self.assertIs(leads(ONE, ONE, [turn, back_of(turn)]), False)
        self.assertIs(leads(ONE, TURNED, [turn, turn], turning=True), False)

    def test_tuples_that_are_no_steps(self):
        wrong = [(), ("weld", ((2, 0), (0, 3)), 1), ("saw", ((2, 0), (0, 3)), "side", (-1, 1), 1), (1, 2), (SAW[1],)]
        wrong += [("saw", ((2, 0), (0, 3)), "across", (2, 0), 1), ("saw", ((2, 0), (0, 3)), "across", (1, -1), 1)]
        wrong += [("split", ((2, 0), (0, 3)), "along", 2, 1), SAW[:-1] + (0,), SAW[:-1] + (2,), ("turn",)]
        for step in wrong:
            for steps in [[step], [SAW, step], [step, SAW]]:
                for turning in [False, True]:
                    self.assertIs(leads(ONE, OTHER, steps, turning=turning), False)

    def test_another_root(self):
        other = Heap.of(3, ((-1, 1), (0, 3)), ((3, -1), (0, 3)))
        self.assertIs(leads(ONE, other, [SAW]), False)
        self.assertIs(leads(Heap(3, ONE.rows()), other, [SAW]), True)
        self.assertIs(leads(Heap(2), Heap(3), []), False)

    def test_arguments_stay(self):
        steps = [SAW, back_of(SAW)]
        leads(ONE, ONE, steps)
        self.assertEqual(steps, [SAW, back_of(SAW)])


class GreatResults(Case):
    def test_sides_for_numbers_above_400(self):
        for root in [2, 61]:
            e, f = tile_lengths(root, 400)
            (a, b), (c, d) = e, f
            thin = (3 * a - 2 * c, 3 * b - 2 * d)
            thin = thin if positive(thin, root) else (-thin[0], -thin[1])
            one = Heap.of(root, (thin, (5, 1)), (e, f))
            other = Heap.of(root, (thin, (4, 0)), (thin, (1, 1)), (e, f))
            for turning in [False, True]:
                recipe = recipe_between(one, other, turning=turning)
                self.assertEqual(recipe(one), other)
                self.assertLessEqual(len(recipe), 40 * 5)

    def test_steps_and_heaps_passed_back(self):
        heap = ONE * TWENTY_DIGITS
        for _ in range(9):
            steps = strips(heap, 300)
            behind = apply_steps(heap, steps)
            self.assertIs(leads(heap, behind, steps), True)
            self.assertIs(linked(heap, behind), True)
            recipe = recipe_between(behind, heap)
            self.assertIs(leads(behind, heap, recipe.steps()), True)
            heap = (recipe * TWENTY_DIGITS)(behind * TWENTY_DIGITS)
        self.assertEqual(heap, ONE * TWENTY_DIGITS**10)


if __name__ == "__main__":
    unittest.main()
