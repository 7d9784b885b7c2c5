"""Cutting out: point [11] of the document and the first sentence of [12]."""

import unittest
from itertools import product as all_of
from random import Random

from grainyard import cutting
from grainyard.cutting import all_fit, can_cut, cut_out, heap_of_table, rest_of
from grainyard.errors import BadRoot, NotEnough, OtherRoot
from grainyard.heaps import Heap
from grainyard.linking import leads, linked
from grainyard.recipes import Recipe
from grainyard.tables import Table
from grainyard.tiles import tile_lengths
from tests.cases import UNITS, Case, area_by_words, heaps_of_runs, small_tables, unit_heap
from tests.models import some_lengths, some_sheets
from tests.samples import NUMBERS, ROOTS, SOME_ROOTS, TWENTY_DIGITS, close_lengths, close_pairs, positive

STOCK = Heap.of(2, ((7, 0), (1, 0)))
WISH = Heap.of(2, ((1, 0), (0, 2)), ((0, 2), (1, 0)))
WRONG_ROOTS = [-TWENTY_DIGITS, -2, 0, 1, 4, 49, 81, 100, TWENTY_DIGITS]
ZERO = Table()


def tables_of_all_sizes():
    """Tables with entries of all sizes and signs."""
    source = Random("tables")
    for _ in range(1500):
        most = 10 ** source.randint(0, 40)
        a, b, c, e = [source.choice([source.randint(-most, most), source.choice(NUMBERS)]) for _ in range(4)]
        yield (a, b), (c, e)


def tables_close_to_zero(root):
    """Tables whose area stands close to zero."""
    for (p, q), split in all_of(close_pairs(root)[:40], [0, 1, -7, 10**15]):
        yield (p, q - split), (split, 0)
        yield (p - root * split, split), (q - split, split)


class Interface(Case):
    def test_example(self):
        self.assertIs(can_cut(STOCK, WISH), True)
        self.assertEqual(rest_of(STOCK, WISH).area, (7, -4))
        self.assertLessEqual(len(rest_of(STOCK, WISH)), 2)
        self.assertIs(all_fit(STOCK, WISH, WISH), False)
        self.assertIs(all_fit(STOCK), True)
        self.assertIs(can_cut(Heap.of(2, UNITS[2]), Heap.of(2, UNITS[1])), False)

    def test_defined_there(self):
        for name in ["heap_of_table", "can_cut", "rest_of", "cut_out", "all_fit"]:
            self.assertEqual(getattr(cutting, name).__module__, "grainyard.cutting")

    def test_arguments_by_name(self):
        table = STOCK.table()
        self.assertEqual(heap_of_table(root=2, table=table), heap_of_table(table, 2))
        for turning in [False, True]:
            named = {"wanted": WISH, "turning": turning, "heap": STOCK}
            self.assertIs(can_cut(**named), can_cut(STOCK, WISH, turning=turning))
            self.assertEqual(rest_of(**named), rest_of(STOCK, WISH, turning=turning))
            self.assertEqual(cut_out(**named), cut_out(STOCK, WISH, turning=turning))
            self.assertIs(all_fit(heap=STOCK, turning=turning), True)

    def test_turning_by_name_only(self):
        for call in [can_cut, rest_of, cut_out]:
            self.assertRaises(TypeError, call, STOCK, WISH, True)


class HeapOfTable(Case):
    def check(self, table, root):
        """Check the heap of a table by the words, also where there is none."""
        entries = table.rows()
        if entries == ((0, 0), (0, 0)):
            self.assertEqual(heap_of_table(table, root), Heap(root))
        elif positive(area_by_words(entries, root), root):
            heap = heap_of_table(table, root)
            self.assertEqual((heap.root, heap.table()), (root, table))
            self.assertIn(heap.many, [1, 2])
            self.assertEqual(heap_of_table(Table(entries), root), heap)
        else:
            self.assertEqual(self.fails(NotEnough, heap_of_table, table, root), {})
        self.assertEqual(table.rows(), entries)

    def test_small_tables(self):
        for root, entries in all_of([2, 61], all_of(range(-3, 4), repeat=4)):
            self.check(Table((entries[:2], entries[2:])), root)

    def test_tables_of_heaps(self):
        for turning in [False, True]:
            for heaps in heaps_of_runs(SOME_ROOTS, turning):
                for heap in heaps:
                    self.check(heap.table(), heap.root)
                    self.assertIs(linked(heap, heap_of_table(heap.table(), heap.root)), True)

    def test_entries_of_all_sizes_with_any_area(self):
        for at, entries in enumerate(tables_of_all_sizes()):
            self.check(Table(entries), ROOTS[at % len(ROOTS)])

    def test_areas_close_to_zero(self):
        for root in SOME_ROOTS:
            signs = set()
            for entries in tables_close_to_zero(root):
                self.check(Table(entries), root)
                signs.add(positive(area_by_words(entries, root), root))
            self.assertEqual(signs, {False, True})

    def test_single_entries(self):
        for root, number, at in all_of(SOME_ROOTS, NUMBERS, range(4)):
            entries = [0, 0, 0, 0]
            entries[at] = number
            self.check(Table((tuple(entries[:2]), tuple(entries[2:]))), root)

    def test_zeros(self):
        for root in ROOTS:
            self.assertEqual(heap_of_table(ZERO, root), Heap(root))
        for entries in [((0, 1), (-1, 0)), ((-2, 0), (0, 1)), ((2, 5), (-5, -1))]:
            self.assertEqual(area_by_words(entries, 2), (0, 0))
            self.assertEqual(self.fails(NotEnough, heap_of_table, Table(entries), 2), {})

    def test_bad_root_ahead_of_not_enough(self):
        for root in WRONG_ROOTS:
            for table in [ZERO, STOCK.table(), -STOCK.table(), Table(((0, 1), (-1, 0)))]:
                self.assertEqual(self.fails(BadRoot, heap_of_table, table, root), {"number": root})


class CuttingOut(Case):
    def check(self, heap, wanted, turning):
        """Check all functions for two heaps by the words of [11]; return whether one can be cut out of the other."""
        rows = heap.rows(), wanted.rows()
        tables = heap.table(), wanted.table()
        same = tables[0].marks(turning=turning) == tables[1].marks(turning=turning)
        (a, b), (c, e) = heap.area, wanted.area
        possible = same or positive((a - c, b - e), heap.root)
        self.assertIs(can_cut(heap, wanted, turning=turning), possible)
        self.assertIs(all_fit(heap, wanted, turning=turning), possible)
        if possible:
            self.check_rest(heap, wanted, turning, same)
        else:
            for call in [rest_of, cut_out]:
                self.assertEqual(self.fails(NotEnough, call, heap, wanted, turning=turning), {})
        self.assertEqual((heap.rows(), wanted.rows()), rows)
        return possible

    def check_rest(self, heap, wanted, turning, same):
        rest = rest_of(heap, wanted, turning=turning)
        self.assertLessEqual(rest.many, 2)
        self.assertIs(rest == Heap(heap.root), same)
        marks = [each.table().marks(turning=turning) for each in (heap, wanted, rest)]
        self.assertEqual([a - b for a, b in zip(marks[0], marks[1])], list(marks[2]))
        found = cut_out(heap, wanted, turning=turning)
        self.assertIs(type(found), tuple)
        recipe, again = found
        self.assertIs(type(recipe), Recipe)
        self.assertEqual((again, recipe.turning), (rest, turning))
        self.assertEqual(recipe(heap), wanted + rest)
        self.assertIs(leads(heap, wanted + rest, recipe.steps(), turning=turning), True)

    def test_linked_heaps(self):
        for turning in [False, True]:
            for heaps in heaps_of_runs(SOME_ROOTS[::2], turning):
                self.assertIs(self.check(heaps[0], heaps[-1], turning), True)
                self.assertEqual(rest_of(heaps[1], heaps[0], turning=turning), Heap(heaps[0].root))

    def test_a_little_more_or_less_area(self):
        for root in SOME_ROOTS:
            sheet = (close_lengths(root)[20], close_lengths(root)[15])
            for heaps in heaps_of_runs([root], False):
                for turning in [False, True]:
                    more = heaps[-1] + Heap.of(root, sheet)
                    self.assertIs(self.check(more, heaps[0], turning), True)
                    self.assertIs(self.check(heaps[0], more, turning), False)

    def test_equal_areas_with_other_marks(self):
        for root in SOME_ROOTS:
            for one, other in [((0, 1, 0, 0), (0, 0, 1, 0)), ((root, 0, 0, 0), (0, 0, 0, 1)), ((1, 2, 0, 3), (1, 0, 2, 3))]:
                first, second = unit_heap(root, *one), unit_heap(root, *other)
                self.assertEqual(first.area, second.area)
                self.assertIs(self.check(first, second, False), False)
                self.assertIs(self.check(first, second, True), one[0] == other[0])
                self.assertIs(self.check(first, first, False), True)

    def test_tables_that_are_greater_and_less(self):
        for one, other in all_of(all_of([0, 3], [0, 1], [0, 2], [0, 2]), repeat=2):
            for turning in [False, True]:
                self.check(unit_heap(5, *one), unit_heap(5, *other), turning)

    def test_empty_heaps(self):
        for root in SOME_ROOTS:
            for turning in [False, True]:
                self.assertIs(self.check(Heap(root), Heap(root), turning), True)
                for heap in [Heap.of(root, sheet) for sheet in some_sheets(root)[:6]]:
                    self.assertIs(self.check(heap, Heap(root), turning), True)
                    self.assertIs(self.check(Heap(root), heap, turning), False)

    def test_single_sheets_of_all_sizes(self):
        for root in [2, 94]:
            lengths = some_lengths(root)
            for one, other in zip(lengths, lengths[4:] + lengths[:4]):
                for third in lengths[::3]:
                    self.check(Heap.of(root, (one, other)), Heap.of(root, (other, third)), False)
                    self.check(Heap.of(root, (one, third)), Heap.of(root, (third, one)), True)

    def test_another_root(self):
        for heap, wanted in [(STOCK, Heap(3)), (Heap(3), STOCK), (Heap(2), Heap(3)), (Heap(5, STOCK.rows()), STOCK)]:
            for call in [can_cut, rest_of, cut_out, all_fit]:
                for turning in [False, True]:
                    self.assertEqual(self.fails(OtherRoot, call, heap, wanted, turning=turning), {})

    def test_equal_arguments_give_equal_results(self):
        again = Heap(2, WISH.rows()[::-1])
        self.assertEqual(rest_of(STOCK, again), rest_of(STOCK, WISH))
        self.assertEqual(cut_out(STOCK, again), cut_out(STOCK, WISH))


class AllFit(Case):
    def test_none_one_and_several(self):
        for turning in [False, True]:
            self.assertIs(all_fit(STOCK, turning=turning), True)
            self.assertIs(all_fit(Heap(2), turning=turning), True)
            self.assertIs(all_fit(STOCK, WISH, turning=turning), True)
            self.assertIs(all_fit(STOCK, WISH, Heap.of(2, ((1, 0), (1, 0))), turning=turning), True)
            self.assertIs(all_fit(STOCK, WISH, Heap.of(2, ((2, 0), (1, 0))), turning=turning), False)
            self.assertIs(all_fit(STOCK, *[Heap(2)] * 5, turning=turning), True)

    def test_the_same_as_their_sum(self):
        wishes = [unit_heap(3, *counts) for counts in all_of([0, 1], [0, 1], [0, 2], [0, 1])]
        for one, other in all_of(wishes, repeat=2):
            for stock in [unit_heap(3, 1, 1, 2, 1), unit_heap(3, 0, 2, 2, 0), unit_heap(3, 0, 5, 0, 1)]:
                for turning in [False, True]:
                    expected = can_cut(stock, one + other, turning=turning)
                    self.assertIs(all_fit(stock, one, other, turning=turning), expected)
                    self.assertIs(all_fit(stock, other, Heap(3), one, turning=turning), expected)

    def test_exactly_all_of_it(self):
        for heaps in heaps_of_runs([2, 99], True):
            parts = [Heap(heaps[0].root, [row]) for row in heaps[-1].rows()]
            self.assertIs(all_fit(heaps[0], *parts, turning=True), True)
            self.assertIs(all_fit(heaps[0], *parts, parts[0], turning=True), False)
            self.assertIs(all_fit(heaps[0], *parts[1:], turning=True), True)

    def test_with_and_without_turning(self):
        stock, wish = unit_heap(2, 0, 2, 0, 0), unit_heap(2, 0, 0, 1, 0)
        self.assertIs(all_fit(stock, wish, wish), False)
        self.assertIs(all_fit(stock, wish, wish, turning=True), True)
        self.assertIs(all_fit(stock, wish), True)

    def test_another_root_at_any_place(self):
        for wanted in [[Heap(3)], [WISH, Heap(3)], [Heap(3), WISH], [WISH, WISH, WISH, Heap(5), WISH]]:
            self.assertEqual(self.fails(OtherRoot, all_fit, STOCK, *wanted), {})

    def test_many_heaps(self):
        wanted = [Heap.of(2, ((1, 0), (1, 0)))] * 200
        self.assertIs(all_fit(Heap.of(2, ((200, 0), (1, 0))), *wanted), True)
        self.assertIs(all_fit(Heap.of(2, ((199, 0), (1, 0))), *wanted), False)


class GreatResults(Case):
    def test_rests_of_rests(self):
        for turning in [False, True]:
            for heaps in heaps_of_runs([2, 61], turning):
                heap = heaps[0] * TWENTY_DIGITS
                for _ in range(20):
                    recipe, rest = cut_out(heap, heaps[-1], turning=turning)
                    self.assertEqual(recipe(heap), heaps[-1] + rest)
                    heap = rest
                expected = (heaps[0] * (TWENTY_DIGITS - 20)).table().marks(turning=True)
                self.assertEqual(heap.table().marks(turning=True), expected)

    def test_great_tables(self):
        for root in SOME_ROOTS:
            e, f = tile_lengths(root, 400)
            heap = Heap(root, [((e, f), 10**200), ((f, (5, 1)), 1)])
            found = heap_of_table(heap.table(), root)
            self.assertIs(linked(found, heap), True)
            self.assertLessEqual(found.many, 2)
            self.assertEqual(cut_out(heap, found)[0](heap), found)

    def test_all_small_tables_again(self):
        for table in small_tables(7, 2):
            heap = heap_of_table(table * 10**50, 7)
            self.assertEqual(rest_of(heap, heap_of_table(table, 7)).table(), table * (10**50 - 1))


if __name__ == "__main__":
    unittest.main()
