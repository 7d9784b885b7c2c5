"""Few sheets: point [12] of the document and the sheets with given widths."""

import unittest
from fractions import Fraction
from functools import cache
from itertools import product as all_of
from math import gcd, isqrt
from random import Random

from grainyard import fewest
from grainyard.cutting import heap_of_table
from grainyard.errors import BadLength, BadWidths, TooGreat
from grainyard.fewest import few_sheets, fewest_sheets, rolls_of, single_sheets, strip_of
from grainyard.heaps import Heap
from grainyard.linking import linked
from grainyard.tables import outer
from tests.cases import Case, heaps_of_runs, marks_by_words, small_tables, unit_heap
from tests.models import some_lengths, some_sheets
from tests.samples import ROOTS, SOME_ROOTS, TWENTY_DIGITS, close_lengths, positive

HEAP = Heap.of(2, ((2, 0), (3, 3)), ((0, 4), (3, 3)))
NO_LENGTHS = [(0, 0), (-1, 0), (0, -1), (1, -1), (-3, 2), (-TWENTY_DIGITS, 1)]
MOST = 3


def fewest_by_words(heap, turning):
    """The least number of sheets by the words of [12]."""
    if heap.rows() == []:
        return 0
    (t00, t01), (t10, t11) = heap.table().rows()
    if not turning:
        return 1 if t00 * t11 == t01 * t10 else 2
    number = (t01 + t10) * (t01 + t10) - 4 * t00 * t11
    return 1 if number >= 0 and isqrt(number) ** 2 == number else 2


@cache
def sheets_by_marks(root, most, turning):
    """All sheets by their marks, for marks from -most to most: a number in such a sheet is no greater either."""
    bound = range(-2 * most, 2 * most + 1) if turning else range(-most, most + 1)
    lengths = [pair for pair in all_of(bound, repeat=2) if positive(pair, root)]
    found = {}
    for (a, b), (c, e) in all_of(lengths, repeat=2):
        marks = marks_by_words(((a * c, a * e), (b * c, b * e)), turning)
        found.setdefault(marks, []).append(((a, b), (c, e)))
    return found


def small_heaps(root):
    """The heap of each small table; tables with equal marks with turning give several."""
    return [heap_of_table(table, root) for table in small_tables(root, MOST)]


class Interface(Case):
    def test_example(self):
        self.assertEqual(fewest_sheets(HEAP), 1)
        sheets = [((1, 2), (6, 6)), ((2, 4), (3, 3)), ((3, 6), (2, 2)), ((6, 12), (1, 1))]
        self.assertEqual(single_sheets(HEAP), sheets)
        self.assertEqual(strip_of(HEAP, (2, 4)), (3, 3))
        self.assertIsNone(strip_of(HEAP, (1, 0)))
        self.assertEqual(rolls_of(HEAP, (1, 0), (0, 1)), ((6, 6), (12, 12)))
        self.assertEqual(fewest_sheets(Heap.of(2, ((1, 0), (1, 0)), ((0, 1), (0, 1)))), 2)

    def test_defined_there(self):
        for name in ["fewest_sheets", "few_sheets", "single_sheets", "strip_of", "rolls_of"]:
            self.assertEqual(getattr(fewest, name).__module__, "grainyard.fewest")

    def test_arguments_by_name(self):
        for turning in [False, True]:
            for call in [fewest_sheets, few_sheets, single_sheets]:
                self.assertEqual(call(turning=turning, heap=HEAP), call(HEAP, turning=turning))
            expected = strip_of(HEAP, (2, 4), turning=turning)
            self.assertEqual(strip_of(width=(2, 4), turning=turning, heap=HEAP), expected)
        self.assertEqual(rolls_of(other=(0, 1), one=(1, 0), heap=HEAP), ((6, 6), (12, 12)))

    def test_turning_by_name_only(self):
        for call in [fewest_sheets, few_sheets, single_sheets]:
            self.assertRaises(TypeError, call, HEAP, True)
        self.assertRaises(TypeError, strip_of, HEAP, (2, 4), True)


class Fewest(Case):
    def check(self, heap, turning):
        rows = heap.rows()
        expected = fewest_by_words(heap, turning)
        self.assertEqual(fewest_sheets(heap, turning=turning), expected)
        few = few_sheets(heap, turning=turning)
        self.assertEqual((few.root, few.many), (heap.root, expected))
        self.assertEqual(few.table().marks(turning=turning), heap.table().marks(turning=turning))
        self.assertIs(linked(heap, few, turning=turning), True)
        self.assertEqual(heap.rows(), rows)
        return expected

    def test_heaps_that_come_from_one_sheet(self):
        for root in SOME_ROOTS:
            for (a, b), (c, e) in some_sheets(root):
                one = Heap.of(root, ((2 * a, 2 * b), (c, e)))
                pieces = Heap(root, [(((a, b), (c, e)), 2)])
                for heap, turning in all_of([one, pieces], [False, True]):
                    self.assertEqual(self.check(heap, turning), 1)
                half_turned = Heap.of(root, ((a, b), (c, e)), ((c, e), (a, b)))
                self.assertEqual(self.check(half_turned, True), 1)
                self.check(half_turned, False)

    def test_a_sheet_that_needs_turning(self):
        heap = unit_heap(2, 0, 1, 1, 0)
        self.assertEqual([self.check(heap, False), self.check(heap, True)], [2, 1])

    def test_small_heaps(self):
        for root in [2, 61]:
            seen = {(self.check(heap, turning), turning) for heap in small_heaps(root) for turning in [False, True]}
            self.assertEqual(seen, {(1, False), (2, False), (1, True), (2, True)})

    def test_heaps_of_runs(self):
        for turning in [False, True]:
            for heaps in heaps_of_runs(SOME_ROOTS, turning):
                found = {self.check(heap, turning) for heap in heaps}
                self.assertEqual(len(found), 1)

    def test_empty_heaps(self):
        for root, turning in all_of(ROOTS, [False, True]):
            self.assertEqual(self.check(Heap(root), turning), 0)
            self.assertEqual(few_sheets(Heap(root), turning=turning), Heap(root))

    def test_great_divisors(self):
        for number in [1000000, 1000001, TWENTY_DIGITS, 10**99]:
            for turning in [False, True]:
                self.assertEqual(self.check(HEAP * number, turning), 1)
                self.check(Heap.of(2, ((1, 0), (1, 0)), ((0, 1), (0, 1))) * number, turning)

    def test_results_passed_back(self):
        heap = HEAP + Heap.of(2, ((5, 0), (0, 7)))
        for _ in range(12):
            heap = few_sheets(heap * TWENTY_DIGITS) + HEAP
        self.assertEqual(self.check(heap, False), 2)
        self.assertEqual(self.check(few_sheets(heap, turning=True), True), fewest_by_words(heap, True))


class SingleSheets(Case):
    def test_all_of_them(self):
        for root in [2, 3, 94]:
            counts = set()
            for heap, turning in all_of(small_heaps(root), [False, True]):
                marks = heap.table().marks(turning=turning)
                if max(abs(mark) for mark in marks) <= MOST:
                    expected = sorted(sheets_by_marks(root, MOST, turning).get(marks, []))
                    found = single_sheets(heap, turning=turning)
                    self.assertEqual(found, expected)
                    self.assertIs(type(found), list)
                    counts.add(len(found))
            self.assertGreaterEqual(len(counts), 3)

    def test_all_of_them_for_many_divisors(self):
        sheets = sheets_by_marks(2, 12, False)
        for sheet in [((12, 0), (1, 0)), ((0, 4), (3, 0)), ((6, -2), (-2, 2)), ((12, -8), (1, 0)), ((6, 6), (2, 0))]:
            marks = outer(*sheet).marks()
            self.assertEqual(single_sheets(Heap.of(2, sheet)), sorted(sheets[marks]))
        self.assertEqual(len(single_sheets(Heap.of(2, ((12, 0), (1, 0))))), 6)

    def test_with_turning_for_many_divisors(self):
        sheets = sheets_by_marks(3, 8, True)
        for sheet in [((8, 0), (1, 0)), ((0, 4), (2, 0)), ((2, 2), (2, 2)), ((4, 0), (0, 2)), ((2, 1), (4, 2))]:
            marks = outer(*sheet).marks(turning=True)
            self.assertEqual(single_sheets(Heap.of(3, sheet), turning=True), sorted(sheets[marks]))

    def test_heaps_of_all_sizes(self):
        for root, turning in all_of(SOME_ROOTS, [False, True]):
            for sheet in some_sheets(root):
                heap = Heap.of(root, sheet)
                divisor = gcd(*heap.table().marks(turning=turning))
                if divisor <= 1000000:
                    found = single_sheets(heap, turning=turning)
                    self.assertIn(sheet, found)
                    self.assertIs(sheet[::-1] in found, turning or sheet[::-1] in single_sheets(heap))
                    self.assertEqual(found, sorted(set(found)))
                    for other in found:
                        self.assertIs(linked(heap, Heap.of(root, other), turning=turning), True)
                    divisors = sum(divisor % k == 0 for k in range(1, divisor + 1)) if divisor < 10**4 else None
                    square = len({sheet[0][0] * sheet[1][1], sheet[0][1] * sheet[1][0]}) == 1
                    if divisors and not turning:
                        self.assertEqual(len(found), divisors)
                    if divisors and turning:
                        self.assertEqual(len(found), divisors if square else 2 * divisors)

    def test_none(self):
        for turning in [False, True]:
            self.assertEqual(single_sheets(Heap(2), turning=turning), [])
            for number in [1, 1000000, 1000001, TWENTY_DIGITS]:
                heap = Heap.of(2, ((1, 0), (1, 0)), ((0, 1), (0, 1))) * number
                self.assertEqual(single_sheets(heap, turning=turning), [])
        self.assertEqual(single_sheets(unit_heap(2, 0, 5000000, 5000000, 0)), [])

    def test_too_great(self):
        for turning in [False, True]:
            for number in [1000001, 1000003, 2000000, TWENTY_DIGITS]:
                heap = Heap.of(2, ((number, 0), (1, 0)))
                self.assertEqual(self.fails(TooGreat, single_sheets, heap, turning=turning), {"most": 1000000})
                heap = Heap.of(2, ((-7, 5), (0, number)))
                self.assertEqual(self.fails(TooGreat, single_sheets, heap, turning=turning), {"most": 1000000})
            for number in [999999, 1000000]:
                found = single_sheets(Heap.of(2, ((number, 0), (1, 0))), turning=turning)
                divisors = [k for k in range(1, number + 1) if number % k == 0]
                self.assertEqual(found, [((k, 0), (number // k, 0)) for k in divisors])

    def test_the_divisor_goes_by_the_marks(self):
        # Without turning the marks have a small divisor, with turning a great one.
        heap = unit_heap(2, 0, 1, 1999999, 0)
        self.assertEqual(single_sheets(heap), [])
        self.assertEqual(self.fails(TooGreat, single_sheets, heap, turning=True), {"most": 1000000})

    def test_returned_list_is_new(self):
        found = single_sheets(HEAP)
        found.clear()
        self.assertEqual(len(single_sheets(HEAP)), 4)


class StripOf(Case):
    def test_by_the_single_sheets(self):
        for root in [2, 61]:
            widths = [pair for pair in all_of(range(-3, 4), repeat=2) if positive(pair, root)]
            for heap, turning in all_of(small_heaps(root)[::2], [False, True]):
                marks = heap.table().marks(turning=turning)
                if max(abs(mark) for mark in marks) <= MOST:
                    sheets = dict(sheets_by_marks(root, MOST, turning).get(marks, []))
                    for width in widths:
                        self.assertEqual(strip_of(heap, width, turning=turning), sheets.get(width))

    def test_strips_of_all_sizes(self):
        for root in SOME_ROOTS:
            lengths = some_lengths(root)
            for width, length in all_of(lengths, lengths[::2]):
                heap = Heap.of(root, (width, length))
                self.assertEqual(strip_of(heap, width), length)
                self.assertEqual(strip_of(heap, width, turning=True), length)
                self.assertEqual(strip_of(heap, length, turning=True), width)
                (a, b), (c, e) = width, length
                self.assertEqual(strip_of(heap, length), width if a * e == b * c else None)
                self.assertIsNone(strip_of(heap, (2 * a + 1, 2 * b)))

    def test_heaps_of_several_sheets(self):
        for root in [2, 7]:
            for width in some_lengths(root):
                heap = Heap.of(root, (width, (3, 1)), (width, (0, 2)), (width, (1, 0)), (width, (1, 0)))
                self.assertEqual(strip_of(heap, width), (5, 3))
                heap = Heap.of(root, (width, (3, 1)), ((0, 2), width))
                self.assertEqual(strip_of(heap, width, turning=True), (3, 3))

    def test_the_empty_heap(self):
        for root, turning in all_of(SOME_ROOTS, [False, True]):
            self.assertIsNone(strip_of(Heap(root), (1, 0), turning=turning))
            self.assertIsNone(strip_of(Heap(root), (0, 1), turning=turning))

    def test_no_lengths(self):
        for width, heap, turning in all_of(NO_LENGTHS, [HEAP, Heap(2)], [False, True]):
            self.assertEqual(self.fails(BadLength, strip_of, heap, width, turning=turning), {"at": 0})

    def test_results_passed_back(self):
        width = close_lengths(2)[50]
        length = strip_of(Heap.of(2, (width, (10**500, 3))), width)
        self.assertEqual(length, (10**500, 3))
        self.assertEqual(strip_of(Heap.of(2, (width, length)), length, turning=True), width)


def rolls_by_fractions(heap, one, other):
    """The rolls by solving the four equations with fractions."""
    (t00, t01), (t10, t11) = heap.table().rows()
    (a, b), (c, e) = one, other
    below = a * e - b * c
    v = tuple(Fraction(e * upper - c * lower, below) for upper, lower in ((t00, t10), (t01, t11)))
    w = tuple(Fraction(a * lower - b * upper, below) for upper, lower in ((t00, t10), (t01, t11)))
    found = []
    for x, y in (v, w):
        if x.denominator != 1 or y.denominator != 1:
            return None
        pair = int(x), int(y)
        if pair != (0, 0) and not positive(pair, heap.root):
            return None
        found.append(None if pair == (0, 0) else pair)
    return tuple(found)


class RollsOf(Case):
    def test_small_heaps(self):
        for root in [2, 61]:
            widths = [pair for pair in all_of(range(-2, 3), repeat=2) if positive(pair, root)]
            kinds = set()
            for heap in small_heaps(root)[::17]:
                for one, other in all_of(widths, repeat=2):
                    if one[0] * other[1] != one[1] * other[0]:
                        found = rolls_of(heap, one, other)
                        self.assertEqual(found, rolls_by_fractions(heap, one, other))
                        kinds.add(found and tuple(part is None for part in found))
            self.assertEqual(kinds, {None, (False, False), (True, False), (False, True)})

    def test_rolls_of_all_sizes(self):
        source = Random("rolls")
        for root in SOME_ROOTS:
            lengths = some_lengths(root)
            for _ in range(60):
                one, other, v, w = [source.choice(lengths) for _ in range(4)]
                if one[0] * other[1] != one[1] * other[0]:
                    heap = Heap.of(root, (one, v), (other, w))
                    self.assertEqual(rolls_of(heap, one, other), (v, w))
                    self.assertEqual(rolls_of(heap, other, one), (w, v))
                    self.assertEqual(rolls_of(Heap.of(root, (one, v)), one, other), (v, None))
                    self.assertEqual(rolls_of(Heap.of(root, (other, w)), one, other), (None, w))
                    self.assertIs(type(rolls_of(heap, one, other)), tuple)

    def test_other_heaps(self):
        for heaps in heaps_of_runs(SOME_ROOTS, False):
            heap = heaps[0]
            for one, other in [((1, 0), (0, 1)), ((2, 0), (0, 1)), ((1, 0), close_lengths(heap.root)[2])]:
                found = rolls_of(heap, one, other)
                self.assertEqual(found, rolls_by_fractions(heap, one, other))
                self.assertEqual(found, rolls_of(heaps[-1], one, other))

    def test_the_empty_heap(self):
        for root in SOME_ROOTS:
            self.assertEqual(rolls_of(Heap(root), (1, 0), (0, 1)), (None, None))
            self.assertEqual(rolls_of(Heap(root), (5, 1), (3, 2)), (None, None))

    def test_no_turning(self):
        heap = Heap.of(2, ((3, 1), (1, 0)))
        self.assertEqual(rolls_of(heap, (1, 0), (0, 1)), ((3, 0), (1, 0)))
        self.assertIsNone(rolls_of(Heap.of(2, ((1, 1), (2, 1))), (2, 1), (0, 3)))

    def test_no_lengths(self):
        for wrong, good, heap in all_of(NO_LENGTHS, [(1, 0), (3, -2)], [HEAP, Heap(2)]):
            self.assertEqual(self.fails(BadLength, rolls_of, heap, wrong, good), {"at": 0})
            self.assertEqual(self.fails(BadLength, rolls_of, heap, good, wrong), {"at": 1})
            for other in NO_LENGTHS:
                self.assertEqual(self.fails(BadLength, rolls_of, heap, wrong, other), {"at": 0})

    def test_widths_that_are_multiples(self):
        for heap, root in [(HEAP, 2), (Heap(2), 2), (Heap(94), 94)]:
            for a, b in some_lengths(root):
                for one, other in all_of([1, 2, 3, TWENTY_DIGITS], repeat=2):
                    widths = (a * one, b * one), (a * other, b * other)
                    self.assertEqual(self.fails(BadWidths, rolls_of, heap, *widths), {})

    def test_bad_length_ahead_of_bad_widths(self):
        self.assertEqual(self.fails(BadLength, rolls_of, HEAP, (1, 0), (-1, 0)), {"at": 1})
        self.assertEqual(self.fails(BadLength, rolls_of, HEAP, (0, 0), (0, 0)), {"at": 0})


if __name__ == "__main__":
    unittest.main()
