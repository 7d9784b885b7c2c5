"""Sheets and heaps: point [6] of the document."""

import unittest
from collections import Counter
from itertools import permutations
from itertools import product as all_of

from grainyard.errors import BadCount, BadRoot, BadRow, BadSheet, NoSheet, OtherRoot
from grainyard.heaps import Heap, check_sheet, turned
from grainyard.lengths import added, scaled
from grainyard.tables import Table
from tests.cases import Case
from tests.models import area_of, rows_of, some_sheets, table_of, wrong_sheets
from tests.samples import ROOTS, SOME_ROOTS, TWENTY_DIGITS, WIDE_PAIRS

ONE, OTHER, THIRD = ((1, 0), (0, 1)), ((0, 1), (1, 0)), ((3, -1), (2, 5))
WRONG_ROOTS = [-TWENTY_DIGITS, -2, -1, 0, 1, 4, 9, 49, 81, 100, 101, TWENTY_DIGITS]
WRONG_COUNTS = [0, -1, -2, -TWENTY_DIGITS]


def counters(root):
    """Counters of sheets: empty, of one sheet, of several ones, with small and great counts."""
    sheets = some_sheets(root)
    return [
        Counter(),
        Counter({sheets[0]: 1}),
        Counter({sheets[0]: 3, sheets[0][::-1]: 2}),
        Counter({sheet: at + 1 for at, sheet in enumerate(sheets)}),
        Counter({sheet: 10**at for at, sheet in enumerate(sheets[::-2])}),
        Counter({sheet: TWENTY_DIGITS - at for at, sheet in enumerate(sheets[3:9])}),
    ]


def heap_of(root, counter):
    return Heap(root, list(counter.items()))


class Interface(Case):
    def test_example(self):
        heap = Heap(2, [(((3, 0), (1, 1)), 2), (((0, 1), (2, 0)), 1), (((3, 0), (1, 1)), 1)])
        self.assertEqual(heap.rows(), [(((0, 1), (2, 0)), 1), (((3, 0), (1, 1)), 3)])
        self.assertEqual((heap.many, len(heap), heap.area), (4, 2, (9, 11)))
        self.assertEqual(heap.table().rows(), ((9, 9), (2, 0)))
        self.assertIs((heap * 2 - heap) == heap, True)
        self.assertEqual(repr(heap), "Heap(4 sheets)")
        self.assertIs(((0, 1), (2, 0)) in heap, True)

    def test_defined_there(self):
        for item in [check_sheet, turned, Heap]:
            self.assertEqual(item.__module__, "grainyard.heaps")
        for name in ["of", "SIDES", "root", "many", "area", "rows", "count", "table"]:
            self.assertIn(name, vars(Heap))

    def test_arguments_by_name(self):
        self.assertEqual(Heap(rows=[(ONE, 2)], root=2), Heap(2, [(ONE, 2)]))
        self.assertEqual(Heap(root=3), Heap(3))
        self.assertEqual(Heap.of(root=3), Heap.of(3))
        self.assertEqual(Heap(2, [(ONE, 2)]).count(sheet=ONE), 2)
        self.assertIsNone(check_sheet(root=2, sheet=ONE))
        self.assertEqual(self.fails(BadSheet, check_sheet, root=2, sheet=((0, 0), (1, 0))), {})
        self.assertEqual(turned(sheet=ONE), OTHER)

    def test_sides(self):
        self.assertEqual(Heap.SIDES, ("across", "along"))
        self.assertEqual(Heap(2).SIDES, ("across", "along"))


class Sheets(Case):
    def test_sheets(self):
        for root in ROOTS:
            for sheet in some_sheets(root):
                self.assertIsNone(check_sheet(sheet, root))

    def test_tuples_that_are_not_sheets(self):
        for root in ROOTS:
            for sheet in wrong_sheets(root):
                self.assertEqual(self.fails(BadSheet, check_sheet, sheet, root), {})

    def test_turned(self):
        for one, other in all_of(WIDE_PAIRS[::17], WIDE_PAIRS[::19]):
            self.assertEqual(turned((one, other)), (other, one))
            self.assertEqual(turned(turned((one, other))), (one, other))
            self.assertIs(type(turned((one, other))), tuple)


class Building(Case):
    def test_rows_in_ascending_order(self):
        for root in SOME_ROOTS:
            for counter in counters(root):
                rows = list(counter.items())
                for passed in [rows, rows[::-1], rows[1:] + rows[:1], tuple(rows)]:
                    self.assertEqual(Heap(root, passed).rows(), rows_of(counter))

    def test_order_is_the_one_of_tuples_not_of_values(self):
        sheets = [((5, -1), (1, 0)), ((0, 3), (1, 0)), ((0, 3), (0, 9)), ((1, 0), (1, 0)), ((-1, 1), (9, 9))]
        for order in permutations(sheets):
            self.assertEqual([sheet for sheet, _ in Heap.of(2, *order).rows()], sorted(sheets))

    def test_counts_of_equal_sheets_are_added(self):
        for order in permutations([(ONE, 2), (OTHER, 5), (ONE, 10**20), (THIRD, 1), (ONE, 1)]):
            self.assertEqual(Heap(2, order).rows(), [(OTHER, 5), (ONE, 10**20 + 3), (THIRD, 1)])

    def test_kinds(self):
        rows = Heap(2, ((ONE, 2), (THIRD, 1))).rows()
        self.assertIs(type(rows), list)
        for row in rows:
            self.assertEqual([type(row), type(row[0]), type(row[1])], [tuple, tuple, int])

    def test_no_rows(self):
        for heap in [Heap(2), Heap(2, []), Heap(2, ()), Heap.of(2)]:
            self.assertEqual(heap.rows(), [])

    def test_200_rows(self):
        rows = [(((at % 7 + 1, at), (1, 1)), at + 1) for at in range(200)]
        self.assertEqual(Heap(5, rows).rows(), sorted(rows))
        self.assertEqual(Heap(5, [(ONE, at + 1) for at in range(200)]).rows(), [(ONE, 20100)])

    def test_bad_root_ahead_of_bad_row(self):
        for root in WRONG_ROOTS:
            for rows in [[], [(ONE, 1)], [(ONE, 0)], [(((0, 0), (0, 0)), 1)]]:
                self.assertEqual(self.fails(BadRoot, Heap, root, rows), {"number": root})
            self.assertEqual(self.fails(BadRoot, Heap.of, root), {"number": root})
            self.assertEqual(self.fails(BadRoot, Heap.of, root, ((0, 0), (0, 0))), {"number": root})

    def test_all_roots(self):
        for root in ROOTS:
            self.assertEqual(Heap(root, [(ONE, 1)]).root, root)

    def test_bad_row_at_any_place(self):
        for root in SOME_ROOTS:
            good = [(sheet, at + 1) for at, sheet in enumerate(some_sheets(root)[:4])]
            wrong = [(sheet, 1) for sheet in wrong_sheets(root)] + [(good[0][0], count) for count in WRONG_COUNTS]
            for row, place in all_of(wrong + [(((0, 0), (0, 0)), 0)], range(5)):
                rows = good[:place] + [row] + good[place:]
                for passed in [rows, tuple(rows), [*rows, row], [*rows, (ONE, -7)]]:
                    self.assertEqual(self.fails(BadRow, Heap, root, passed), {"at": place})

    def test_bad_row_for_equal_sheets_whose_sum_would_do(self):
        self.assertEqual(self.fails(BadRow, Heap, 2, [(ONE, 5), (ONE, -1)]), {"at": 1})
        self.assertEqual(self.fails(BadRow, Heap, 2, [(ONE, 0), (ONE, 5)]), {"at": 0})

    def test_sides_close_to_zero(self):
        self.assertEqual(len(Heap.of(2, ((3, -2), (-7, 5)))), 1)
        self.assertEqual(self.fails(BadRow, Heap.of, 2, ONE, ((7, -5), (3, -2))), {"at": 1})
        self.assertEqual(self.fails(BadRow, Heap.of, 2, ((-7, 5), (-3, 2))), {"at": 0})

    def test_lists_that_are_changed_after_the_call(self):
        rows = [(ONE, 2), (THIRD, 1)]
        heap = Heap(2, rows)
        rows.append((OTHER, 9))
        rows[0] = (OTHER, 1)
        self.assertEqual(heap.rows(), [(ONE, 2), (THIRD, 1)])
        self.assertEqual((heap.many, heap.count(OTHER)), (3, 0))

    def test_returned_lists_are_new(self):
        heap = Heap(2, [(ONE, 2), (THIRD, 1)])
        heap.rows().clear()
        heap.rows().append(None)
        self.assertEqual(heap.rows(), [(ONE, 2), (THIRD, 1)])
        self.assertIsNot(heap.rows(), heap.rows())

    def test_arguments_stay(self):
        rows = [(THIRD, 1), (ONE, 2), (THIRD, 4)]
        Heap(2, rows)
        self.assertEqual(rows, [(THIRD, 1), (ONE, 2), (THIRD, 4)])

    def test_rows_can_be_passed_back(self):
        for root in SOME_ROOTS:
            for counter in counters(root):
                heap = heap_of(root, counter) * TWENTY_DIGITS * TWENTY_DIGITS
                self.assertEqual(Heap(root, heap.rows()), heap)


class OfSheets(Case):
    def test_none_one_several_and_equal_ones(self):
        self.assertEqual(Heap.of(2).rows(), [])
        self.assertEqual(Heap.of(2, THIRD).rows(), [(THIRD, 1)])
        self.assertEqual(Heap.of(2, THIRD, ONE).rows(), [(ONE, 1), (THIRD, 1)])
        self.assertEqual(Heap.of(2, THIRD, ONE, THIRD, THIRD).rows(), [(ONE, 1), (THIRD, 3)])
        self.assertEqual(Heap.of(2, *[ONE] * 200).rows(), [(ONE, 200)])

    def test_as_rows_with_the_count_1(self):
        for root in SOME_ROOTS:
            sheets = some_sheets(root)
            self.assertEqual(Heap.of(root, *sheets), Heap(root, [(sheet, 1) for sheet in sheets]))
            self.assertIs(type(Heap.of(root, *sheets)), Heap)

    def test_index_of_the_wrong_sheet(self):
        for root in SOME_ROOTS:
            good = some_sheets(root)[:4]
            for wrong, place in all_of(wrong_sheets(root), range(5)):
                sheets = good[:place] + [wrong] + good[place:]
                self.assertEqual(self.fails(BadRow, Heap.of, root, *sheets, wrong), {"at": place})


class Reading(Case):
    def test_numbers(self):
        for root in SOME_ROOTS:
            for counter in counters(root):
                heap = heap_of(root, counter)
                self.assertEqual(heap.root, root)
                self.assertEqual(heap.many, sum(counter.values()))
                self.assertEqual(len(heap), len(counter))
                self.assertIs(bool(heap), len(counter) > 0)
                self.assertEqual(repr(heap), f"Heap({sum(counter.values())} sheets)")

    def test_counts(self):
        for root in SOME_ROOTS:
            for counter in counters(root):
                heap = heap_of(root, counter)
                for sheet in some_sheets(root) + wrong_sheets(root):
                    for asked in [sheet, sheet[::-1]]:
                        self.assertEqual(heap.count(asked), counter[asked] if asked in counter else 0)
                        self.assertIs(asked in heap, asked in counter)
                        self.assertIs(asked not in heap, asked not in counter)

    def test_turned_sheets_are_other_sheets(self):
        heap = Heap(2, [(ONE, 2)])
        self.assertEqual([heap.count(ONE), heap.count(OTHER)], [2, 0])
        self.assertEqual([ONE in heap, OTHER in heap], [True, False])

    def test_table_and_area(self):
        for root in SOME_ROOTS:
            for counter in counters(root):
                heap = heap_of(root, counter)
                self.assertIs(type(heap.table()), Table)
                self.assertEqual(heap.table().rows(), table_of(counter))
                self.assertEqual(heap.area, area_of(counter, root))

    def test_empty_heap(self):
        heap = Heap(3)
        self.assertEqual((heap.many, len(heap), heap.area, heap.count(ONE)), (0, 0, (0, 0), 0))
        self.assertEqual(heap.table(), Table())
        self.assertIs(bool(heap), False)
        self.assertIs(ONE in heap, False)
        self.assertEqual(repr(heap), "Heap(0 sheets)")

    def test_repr_of_one_sheet_and_of_many(self):
        self.assertEqual(repr(Heap.of(2, ONE)), "Heap(1 sheets)")
        self.assertEqual(repr(Heap(2, [(ONE, 10**6000)])), f"Heap(1{'0' * 6000} sheets)")

    def test_properties_are_not_assigned(self):
        heap = Heap.of(2, ONE)
        for name in ["root", "many", "area"]:
            self.assertIsInstance(vars(Heap)[name], property)
            self.assertRaises(AttributeError, setattr, heap, name, 3)


class Signs(Case):
    def test_sum(self):
        for root in SOME_ROOTS:
            for one, other in all_of(counters(root), repeat=2):
                first, second = heap_of(root, one), heap_of(root, other)
                self.assertEqual((first + second).rows(), rows_of(one + other))
                self.assertEqual((first + second).root, root)
                self.assertEqual((first.rows(), second.rows()), (rows_of(one), rows_of(other)))

    def test_difference(self):
        for root in SOME_ROOTS:
            for one, other in all_of(counters(root), repeat=2):
                first, second = heap_of(root, one), heap_of(root, other)
                missing = [sheet for sheet in sorted(other) if one[sheet] < other[sheet]]
                if missing:
                    self.assertEqual(self.fails(NoSheet, lambda: first - second), {"sheet": missing[0]})
                else:
                    self.assertEqual((first - second).rows(), rows_of(one - other))
                self.assertEqual((first.rows(), second.rows()), (rows_of(+one), rows_of(other)))

    def test_difference_with_one_sheet_too_few(self):
        stock = Heap(2, [(THIRD, 2), (ONE, 2), (OTHER, 2)])
        self.assertEqual((stock - Heap(2, [(ONE, 2), (THIRD, 1)])).rows(), [(OTHER, 2), (THIRD, 1)])
        order = [OTHER, ONE, THIRD]
        for missing in [order[:1], order[1:2], order[2:], order[1:], [THIRD, OTHER], order]:
            wish = Heap(2, [(sheet, 3 if sheet in missing else 2) for sheet in order])
            self.assertEqual(self.fails(NoSheet, lambda: stock - wish), {"sheet": min(missing)})
        self.assertEqual(self.fails(NoSheet, lambda: Heap(2) - stock), {"sheet": OTHER})
        self.assertEqual(self.fails(NoSheet, lambda: Heap.of(2, ONE) - Heap.of(2, OTHER)), {"sheet": OTHER})

    def test_other_root_ahead_of_no_sheet(self):
        heaps = [Heap(2), Heap.of(2, ONE)]
        for first, second in all_of(heaps, [Heap(3), Heap.of(3, ONE), Heap.of(3, OTHER)]):
            for one, other in [(first, second), (second, first)]:
                self.assertEqual(self.fails(OtherRoot, lambda: one + other), {})
                self.assertEqual(self.fails(OtherRoot, lambda: one - other), {})

    def test_multiple(self):
        for root in SOME_ROOTS:
            for counter, number in all_of(counters(root), [0, 1, 2, 7, TWENTY_DIGITS, 10**50]):
                heap = heap_of(root, counter)
                expected = Counter({sheet: count * number for sheet, count in counter.items()})
                self.assertEqual((heap * number).rows(), rows_of(expected))
                self.assertEqual((heap * number).root, root)
                self.assertEqual(heap.rows(), rows_of(counter))

    def test_negative_multiple(self):
        for number, heap in all_of([-1, -2, -TWENTY_DIGITS], [Heap(2), Heap.of(2, ONE)]):
            self.assertEqual(self.fails(BadCount, lambda: heap * number), {"number": number})

    def test_multiple_by_0_is_empty(self):
        heap = Heap(7, [(ONE, 4), (THIRD, 1)]) * 0
        self.assertEqual((heap, bool(heap), len(heap)), (Heap(7), False, 0))

    def test_equality(self):
        heaps = [(root, counter) for root in (2, 3) for counter in counters(2) if root == 2 or len(counter) < 2]
        for (root, one), (base, other) in all_of(heaps, repeat=2):
            same = root == base and one == other
            self.assertIs(heap_of(root, one) == heap_of(base, other), same)
            self.assertIs(heap_of(root, one) != heap_of(base, other), not same)

    def test_equality_by_root_sheets_and_counts(self):
        heap = Heap(2, [(ONE, 2), (THIRD, 1)])
        self.assertEqual(heap, Heap(2, [(THIRD, 1), (ONE, 1), (ONE, 1)]))
        others = [Heap(3, [(ONE, 2), (THIRD, 1)]), Heap(2, [(ONE, 1), (THIRD, 1)]), Heap(2, [(ONE, 2)])]
        others += [Heap(2, [(OTHER, 2), (THIRD, 1)]), Heap(2), heap + heap]
        for other in others:
            self.assertIs(heap == other, False)
            self.assertIs(heap != other, True)

    def test_equal_to_nothing_else(self):
        for heap in [Heap(2), Heap.of(2, ONE)]:
            for thing in [heap.rows(), tuple(heap.rows()), heap.table(), None, 0, 1, True, False, "", {}, (), Heap]:
                self.assertIs(heap == thing, False)
                self.assertIs(thing == heap, False)
                self.assertIs(heap != thing, True)


class FittingTogether(Case):
    def test_sums_in_any_order(self):
        for root in SOME_ROOTS:
            heaps = [heap_of(root, counter) for counter in counters(root)]
            for one, other, third in all_of(heaps, repeat=3):
                self.assertEqual(one + other, other + one)
                self.assertEqual((one + other) + third, one + (other + third))

    def test_differences_undo_sums(self):
        for root in SOME_ROOTS:
            heaps = [heap_of(root, counter) for counter in counters(root)]
            for one, other in all_of(heaps, repeat=2):
                self.assertEqual(one + other - other, one)
                self.assertEqual(one + other - one, other)
                self.assertEqual(one - one, Heap(root))
                self.assertEqual(one - Heap(root), one)

    def test_tables_areas_and_numbers_of_sums(self):
        for root in SOME_ROOTS:
            heaps = [heap_of(root, counter) for counter in counters(root)]
            for one, other in all_of(heaps, repeat=2):
                self.assertEqual((one + other).table(), one.table() + other.table())
                self.assertEqual((one + other).area, added(one.area, other.area))
                self.assertEqual((one + other).many, one.many + other.many)
                self.assertEqual((one + other - one).table(), (one + other).table() - one.table())

    def test_tables_areas_and_numbers_of_multiples(self):
        for root in SOME_ROOTS:
            for counter, number in all_of(counters(root), [0, 1, 5, TWENTY_DIGITS]):
                heap = heap_of(root, counter)
                self.assertEqual((heap * number).table(), heap.table() * number)
                self.assertEqual((heap * number).area, scaled(heap.area, number))
                self.assertEqual((heap * number).many, heap.many * number)

    def test_multiples_are_repeated_sums(self):
        for counter in counters(13):
            heap, total = heap_of(13, counter), Heap(13)
            for number in range(6):
                self.assertEqual(heap * number, total)
                total = total + heap

    def test_area_of_a_table(self):
        for root in SOME_ROOTS:
            for counter in counters(root):
                heap = heap_of(root, counter)
                self.assertEqual(heap.area, heap.table().area_for(root))


if __name__ == "__main__":
    unittest.main()
