"""Squares and forms: points [13] and [14] of the document."""

import unittest
from itertools import product as all_of
from random import Random

from grainyard import squares
from grainyard.cutting import heap_of_table
from grainyard.errors import BadForm, NoSquares
from grainyard.heaps import Heap
from grainyard.linking import linked, recipe_between
from grainyard.squares import reduced, shows_no_squares, squares_of
from tests.cases import UNITS, Case, heaps_of_runs, small_tables, unit_heap
from tests.models import some_lengths
from tests.samples import ROOTS, SOME_ROOTS, TWENTY_DIGITS

HEAP = Heap.of(2, ((1, 0), (1, 1)), ((0, 1), (1, 3)))
SIDEWAYS = Heap.of(2, ((0, 1), (3, 0)), ((2, 0), (0, 1)))
PAIRS = list(all_of(range(-5, 6), repeat=2))


def value_of(form, pair):
    a, b, c = form
    x, y = pair
    return a * x * x + 2 * b * x * y + c * y * y


def changed(form, one, other):
    """The form that two pairs give, by the words of [14]."""
    a, b, c = form
    (x, y), (z, w) = one, other
    return value_of(form, one), a * x * z + b * (x * w + y * z) + c * y * w, value_of(form, other)


def is_reduced(form):
    a, b, c = form
    return 0 <= 2 * b <= a <= c


def reduced_forms():
    """Reduced forms of all sizes, those at the edges among them."""
    small = [(a, b, c) for a in range(1, 7) for b in range(4) for c in range(1, 9) if is_reduced((a, b, c))]
    great = [10**19, TWENTY_DIGITS, 10**60]
    edges = [(a, b, c) for a in great for b in (0, 1, a // 2) for c in (a, a + 1, a * a)]
    return small + edges


def random_pairs(source, most):
    """Two pairs with the determinant 1 or -1."""
    one, other = (1, 0), (0, 1)
    for _ in range(source.randint(1, 9)):
        k = source.randint(-most, most)
        one, other = other, (one[0] + k * other[0], one[1] + k * other[1])
    return one, other


class Interface(Case):
    def test_example(self):
        self.assertEqual(reduced((5, 7, 10))[0], (1, 0, 1))
        self.assertEqual(squares_of(HEAP).table(), HEAP.table())
        self.assertIs(shows_no_squares(Heap.of(2, ((1, 0), (0, 1))), None), True)
        self.assertIs(shows_no_squares(SIDEWAYS, (1, -1), turning=True), True)

    def test_defined_there(self):
        for name in ["reduced", "squares_of", "shows_no_squares"]:
            self.assertEqual(getattr(squares, name).__module__, "grainyard.squares")

    def test_arguments_by_name(self):
        self.assertEqual(reduced(form=(5, 7, 10)), reduced((5, 7, 10)))
        for turning in [False, True]:
            self.assertEqual(squares_of(turning=turning, heap=HEAP), squares_of(HEAP, turning=turning))
            expected = shows_no_squares(SIDEWAYS, (1, -1), turning=turning)
            self.assertIs(shows_no_squares(reason=(1, -1), turning=turning, heap=SIDEWAYS), expected)

    def test_turning_by_name_only(self):
        self.assertRaises(TypeError, squares_of, HEAP, True)
        self.assertRaises(TypeError, shows_no_squares, HEAP, None, True)


class Reduced(Case):
    def check(self, form):
        found = reduced(form)
        self.assertIs(type(found), tuple)
        result, (x, y), (z, w) = found
        self.assertIs(type(result), tuple)
        self.assertIs(is_reduced(result), True, form)
        self.assertEqual(changed(form, (x, y), (z, w)), result)
        self.assertIn(x * w - y * z, [1, -1])
        return result

    def test_reduced_forms_stay(self):
        for form in reduced_forms():
            self.assertEqual(self.check(form), form)

    def test_equivalent_forms(self):
        source = Random("forms")
        for form in reduced_forms():
            for most in [1, 2, 9, TWENTY_DIGITS]:
                one, other = random_pairs(source, most)
                self.assertEqual(self.check(changed(form, one, other)), form)

    def test_all_small_forms(self):
        for form in all_of(range(1, 12), range(-12, 13), range(1, 40)):
            if form[0] * form[2] > form[1] ** 2:
                result = self.check(form)
                values = sorted(value_of(form, pair) for pair in PAIRS if pair != (0, 0))
                self.assertLessEqual(result[0], values[0])
                self.assertEqual(result[0] * result[2] - result[1] ** 2, form[0] * form[2] - form[1] ** 2)

    def test_no_forms(self):
        wrong = [(0, 0, 0), (1, 1, 1), (0, 0, 1), (1, 0, 0), (-1, 0, -1), (-2, 1, -2), (4, 6, 9), (2, 3, 4), (1, 0, -1)]
        wrong += [(-TWENTY_DIGITS, 0, -TWENTY_DIGITS), (TWENTY_DIGITS, TWENTY_DIGITS, TWENTY_DIGITS), (0, 5, 0)]
        for form in wrong:
            self.assertEqual(self.fails(BadForm, reduced, form), {})

    def test_forms_and_others(self):
        for form in all_of(range(-3, 4), repeat=3):
            if form[0] > 0 and form[0] * form[2] > form[1] ** 2:
                self.check(form)
            else:
                self.assertEqual(self.fails(BadForm, reduced, form), {})

    def test_results_passed_back(self):
        form, one, other = reduced((10**500 + 1, 10**500, 10**500))
        self.assertEqual(reduced(form)[0], form)
        self.assertEqual(self.check(changed(form, one, other)), form)


def can_be_squares(heap, turning):
    """Whether a heap can be changed into squares, by the words of [13]."""
    (t00, t01), (t10, t11) = heap.table().rows()
    even = (t01 + t10) % 2 == 0 if turning else t01 == t10
    return even and t00 >= 0 and t11 >= 0 and (t01 + t10) ** 2 <= 4 * t00 * t11


class SquaresOf(Case):
    def check(self, heap, turning):
        """Check the squares or the reason of a heap; return what it was."""
        rows = heap.rows()
        (t00, t01), (t10, t11) = heap.table().rows()
        if can_be_squares(heap, turning):
            found = squares_of(heap, turning=turning)
            for across, along in [sheet for sheet, _ in found.rows()]:
                self.assertEqual(across, along)
            self.assertIs(linked(heap, found, turning=turning), True)
            self.assertIs(shows_no_squares(heap, None, turning=turning), False)
            kind = "squares"
        else:
            reason = self.fails(NoSquares, squares_of, heap, turning=turning)["reason"]
            self.assertIs(shows_no_squares(heap, reason, turning=turning), True)
            uneven = (t01 + t10) % 2 == 1 if turning else t01 != t10
            self.assertIs(reason is None, uneven)
            if reason is not None:
                x, y = reason
                self.assertLess(t00 * x * x + (t01 + t10) * x * y + t11 * y * y, 0)
                self.assertIs(type(reason), tuple)
            kind = "uneven" if uneven else "weight"
        self.assertEqual(heap.rows(), rows)
        return kind

    def test_small_heaps(self):
        for root in [2, 7, 99]:
            heaps = [heap_of_table(table, root) for table in small_tables(root, 3)]
            for turning in [False, True]:
                kinds = {self.check(heap, turning) for heap in heaps}
                self.assertEqual(kinds, {"squares", "uneven", "weight"})

    def test_heaps_of_runs(self):
        for turning in [False, True]:
            for heaps in heaps_of_runs(SOME_ROOTS, turning):
                self.assertEqual(len({self.check(heap, turning) for heap in heaps}), 1)
                self.check(heaps[0] * 2, True)

    def test_heaps_that_come_from_squares(self):
        source = Random("squares")
        for root in SOME_ROOTS:
            lengths = some_lengths(root)
            for _ in range(25):
                sides = [source.choice(lengths) for _ in range(source.randint(1, 5))]
                heap = Heap(root, [((side, side), source.randint(1, 99)) for side in sides])
                for mixed in [heap, heap_of_table(heap.table(), root)]:
                    self.assertEqual(self.check(mixed, False), "squares")
                    self.assertEqual(self.check(mixed, True), "squares")

    def test_determinant_or_discriminant_0(self):
        for root in ROOTS:
            for side in some_lengths(root)[:6]:
                for count in [1, 2, 12, TWENTY_DIGITS]:
                    heap = Heap(root, [((side, side), count)])
                    self.assertEqual(self.check(heap, False), "squares")
                    self.assertEqual(squares_of(heap).table(), heap.table())
                    long = Heap.of(root, (side, (2 * side[0], 2 * side[1])))
                    self.assertEqual(self.check(long, True), "squares")

    def test_discriminant_0_with_turning_alone(self):
        heap = unit_heap(3, 1, 0, 2, 1)
        self.assertEqual([self.check(heap, False), self.check(heap, True)], ["uneven", "squares"])
        self.assertEqual(self.check(unit_heap(3, 1, 0, 1, 1), True), "uneven")
        self.assertEqual(self.check(unit_heap(3, 1, 1, 1, 1), False), "squares")
        self.assertEqual(self.check(unit_heap(3, 1, 2, 2, 1), False), "weight")

    def test_weights_of_each_kind(self):
        for root in [2, 5]:
            for counts in all_of([0, 1, 4], [0, 3], [0, 3], [0, 1, 9]):
                for turning in [False, True]:
                    self.check(unit_heap(root, *counts), turning)

    def test_weights_that_are_hardly_negative(self):
        for middle in [2, 3, 7, 60, 10**9 + 7, TWENTY_DIGITS]:
            # The last heap has a * c one less than b * b.
            for last, kind in [(middle + 3, "squares"), (middle + 2, "squares"), (middle + 1, "weight")]:
                for counts in [(middle - 1, middle, middle, last), (last, middle, middle, middle - 1)]:
                    for turning in [False, True]:
                        self.assertEqual(self.check(unit_heap(3, *counts), turning), kind)

    def test_the_empty_heap(self):
        for root, turning in all_of(ROOTS, [False, True]):
            self.assertEqual(squares_of(Heap(root), turning=turning), Heap(root))

    def test_equal_arguments_give_equal_results(self):
        again = Heap(2, HEAP.rows()[::-1])
        self.assertEqual(squares_of(HEAP), squares_of(again))

    def test_results_passed_back(self):
        heap = HEAP
        for _ in range(12):
            heap = squares_of(heap * TWENTY_DIGITS) + HEAP
            self.assertEqual(self.check(heap, False), "squares")
        self.assertEqual(recipe_between(heap, squares_of(heap))(heap), squares_of(heap))
        great = unit_heap(2, 1, 10**300, 10**300, 5)
        reason = self.fails(NoSquares, squares_of, great)["reason"]
        self.assertIs(shows_no_squares(great, reason), True)


class Reasons(Case):
    def test_none(self):
        for counts in all_of([0, 5], [0, 1, 2, 7], [0, 1, 2, 7], [0, 5]):
            heap = unit_heap(7, *counts)
            self.assertIs(shows_no_squares(heap, None), counts[1] != counts[2])
            self.assertIs(shows_no_squares(heap, None, turning=False), counts[1] != counts[2])
            self.assertIs(shows_no_squares(heap, None, turning=True), (counts[1] + counts[2]) % 2 == 1)

    def test_pairs(self):
        found = set()
        for table in small_tables(3, 2):
            heap = heap_of_table(table, 3)
            (t00, t01), (t10, t11) = table.rows()
            for x, y in PAIRS[::3]:
                expected = t00 * x * x + (t01 + t10) * x * y + t11 * y * y < 0
                for turning in [False, True]:
                    self.assertIs(shows_no_squares(heap, (x, y), turning=turning), expected)
                found.add(expected)
        self.assertEqual(found, {False, True})

    def test_weight_0_is_no_reason(self):
        heap = unit_heap(2, 1, 1, 1, 1)
        self.assertIs(shows_no_squares(heap, (1, -1)), False)
        self.assertIs(shows_no_squares(heap, (0, 0)), False)
        self.assertIs(shows_no_squares(SIDEWAYS, (0, 0)), False)

    def test_great_pairs(self):
        for number in [TWENTY_DIGITS, 10**200]:
            self.assertIs(shows_no_squares(SIDEWAYS, (number, -number)), True)
            self.assertIs(shows_no_squares(SIDEWAYS, (number, number)), False)

    def test_the_empty_heap(self):
        for turning, reason in all_of([False, True], [None, (0, 0), (1, -1), (5, 7)]):
            self.assertIs(shows_no_squares(Heap(2), reason, turning=turning), False)

    def test_unit_sheets(self):
        self.assertEqual([shows_no_squares(Heap.of(2, sheet), None) for sheet in UNITS], [False, True, True, False])


if __name__ == "__main__":
    unittest.main()
