"""Tables: point [6] of the document, the marks of [9] and the weights of [13]."""

import unittest
from itertools import islice
from itertools import product as all_of

from grainyard import tables
from grainyard.lengths import added, product, scaled
from grainyard.tables import Table, outer
from tests.samples import NUMBERS, SOME_ROOTS, TWENTY_DIGITS, WIDE_PAIRS

ENTRIES = [
    ((0, 0), (0, 0)),
    ((1, 0), (0, 0)),
    ((0, 1), (0, 0)),
    ((0, 0), (1, 0)),
    ((0, 0), (0, -1)),
    ((1, 2), (3, 4)),
    ((-1, 5), (-5, 1)),
    ((7, -8), (-9, -10)),
    ((TWENTY_DIGITS, -TWENTY_DIGITS), (10**19, 1)),
    ((-(10**60), 10**45 + 1), (-(10**19) - 7, 10**300)),
]
FEW_PAIRS = [(0, 0), (1, 0), (0, 1), (2, -3), (-7, 5), (-4, -9), (TWENTY_DIGITS, -12)]


def entry_by_entry(change, *tables_rows):
    """The rows that a change of single entries gives."""
    return tuple(tuple(change(*entries) for entries in zip(*rows)) for rows in zip(*tables_rows))


class Interface(unittest.TestCase):
    def test_example(self):
        table = outer((1, 2), (3, -1)) + Table(((0, 1), (0, 0))) * 4
        self.assertEqual(table.rows(), ((3, 3), (6, -2)))
        self.assertEqual(table[1, 0], 6)
        self.assertEqual(table.area_for(2), (-1, 9))
        self.assertEqual(table.marks(turning=True), (3, 9, -2))
        self.assertEqual(table.weight((1, -1)), -8)
        self.assertEqual(table.determinant(), -24)
        self.assertIs(bool(table - table), False)
        self.assertEqual(repr(-table), "Table(((-3, -3), (-6, 2)))")

    def test_defined_there(self):
        self.assertEqual(outer.__module__, "grainyard.tables")
        self.assertEqual(Table.__module__, "grainyard.tables")
        for name in ["rows", "area_for", "marks", "weight", "determinant"]:
            self.assertIn(name, vars(tables.Table))

    def test_arguments_by_name(self):
        self.assertEqual(outer(other=(3, -1), one=(1, 2)), outer((1, 2), (3, -1)))
        self.assertEqual(outer(other=(3, -1), one=(1, 2)).rows(), ((3, -1), (6, -2)))
        table = Table(rows=((1, 2), (3, 4)))
        self.assertEqual(table, Table(((1, 2), (3, 4))))
        self.assertEqual(table.area_for(root=5), table.area_for(5))
        self.assertEqual(table.weight(pair=(2, 7)), table.weight((2, 7)))

    def test_turning_by_name_only(self):
        self.assertRaises(TypeError, Table().marks, True)
        self.assertEqual(Table(((1, 2), (3, 4))).marks(turning=False), (1, 2, 3, 4))


class Entries(unittest.TestCase):
    def test_rows_and_entries(self):
        for rows in ENTRIES:
            table = Table(rows)
            self.assertEqual(table.rows(), rows)
            self.assertEqual([type(table.rows())] + [type(row) for row in table.rows()], [tuple] * 3)
            for i, j in all_of((0, 1), repeat=2):
                self.assertEqual(table[i, j], rows[i][j])

    def test_default(self):
        self.assertEqual(Table().rows(), ((0, 0), (0, 0)))
        self.assertEqual(Table(), Table(((0, 0), (0, 0))))

    def test_true_if_an_entry_is_not_0(self):
        for rows in ENTRIES:
            self.assertIs(bool(Table(rows)), rows != ((0, 0), (0, 0)))

    def test_repr(self):
        for rows in ENTRIES:
            self.assertEqual(repr(Table(rows)), f"Table({rows!r})")
        self.assertEqual(repr(Table()), "Table(((0, 0), (0, 0)))")

    def test_repr_of_entries_with_more_digits_than_str_writes(self):
        table = Table(((1, 0), (0, -2))) * 10**6000
        zeros = "0" * 6000
        self.assertEqual(repr(table), f"Table(((1{zeros}, 0), (0, -2{zeros})))")

    def test_equality(self):
        for one, other in all_of(ENTRIES, repeat=2):
            self.assertIs(Table(one) == Table(other), one == other)
            self.assertIs(Table(one) != Table(other), one != other)

    def test_each_entry_counts(self):
        for at in range(4):
            numbers = [5, 5, 5, 5]
            numbers[at] = 6
            changed = Table((tuple(numbers[:2]), tuple(numbers[2:])))
            self.assertFalse(changed == Table(((5, 5), (5, 5))))
            self.assertTrue(changed != Table(((5, 5), (5, 5))))

    def test_equal_to_nothing_else(self):
        for rows in ENTRIES[:6]:
            for thing in [rows, list(rows), None, 0, False, True, "", repr(Table(rows)), (), {}, Table, object()]:
                self.assertIs(Table(rows) == thing, False)
                self.assertIs(thing == Table(rows), False)
                self.assertIs(Table(rows) != thing, True)

    def test_not_iterated(self):
        self.assertRaises(TypeError, iter, Table(((1, 2), (3, 4))))
        self.assertRaises(TypeError, list, Table())

    def test_rows_that_are_changed_after_the_call(self):
        rows = [[1, 2], [3, 4]]
        table = Table(rows)
        rows[0][0] = 9
        rows.clear()
        self.assertEqual(table.rows(), ((1, 2), (3, 4)))


class Signs(unittest.TestCase):
    def test_sum_and_difference_entry_by_entry(self):
        for one, other in all_of(ENTRIES, repeat=2):
            first, second = Table(one), Table(other)
            self.assertEqual((first + second).rows(), entry_by_entry(lambda a, b: a + b, one, other))
            self.assertEqual((first - second).rows(), entry_by_entry(lambda a, b: a - b, one, other))
            self.assertEqual((first.rows(), second.rows()), (one, other))

    def test_negative_entry_by_entry(self):
        for rows in ENTRIES:
            table = Table(rows)
            self.assertEqual((-table).rows(), entry_by_entry(lambda a: -a, rows))
            self.assertEqual(-(-table), table)
            self.assertEqual(table.rows(), rows)

    def test_multiple_entry_by_entry(self):
        for rows, number in all_of(ENTRIES, NUMBERS):
            table = Table(rows)
            self.assertEqual((table * number).rows(), entry_by_entry(lambda a: a * number, rows))
            self.assertEqual(table.rows(), rows)

    def test_results_are_tables(self):
        table = Table(((1, 2), (3, 4)))
        for result in [table + table, table - table, -table, table * 0, outer((1, 2), (3, 4))]:
            self.assertIs(type(result), Table)

    def test_in_place_signs_leave_the_old_table(self):
        table = kept = Table(((1, 2), (3, 4)))
        table += Table(((1, 1), (1, 1)))
        self.assertEqual((table.rows(), kept.rows()), (((2, 3), (4, 5)), ((1, 2), (3, 4))))
        table -= kept
        self.assertEqual(table.rows(), ((1, 1), (1, 1)))
        table *= 3
        self.assertEqual((table.rows(), kept.rows()), (((3, 3), (3, 3)), ((1, 2), (3, 4))))


class Formulas(unittest.TestCase):
    def test_outer(self):
        self.assertEqual(outer((2, 3), (5, 7)).rows(), ((10, 14), (15, 21)))
        for (a, b), (c, e) in all_of(WIDE_PAIRS[::7], WIDE_PAIRS[::11]):
            self.assertEqual(outer((a, b), (c, e)).rows(), ((a * c, a * e), (b * c, b * e)))

    def test_area(self):
        self.assertEqual(Table(((1, 10), (100, 1000))).area_for(7), (7001, 110))
        for (t00, t01), (t10, t11) in ENTRIES:
            for root in SOME_ROOTS:
                area = Table(((t00, t01), (t10, t11))).area_for(root)
                self.assertEqual(area, (t00 + root * t11, t01 + t10))
                self.assertIs(type(area), tuple)

    def test_marks(self):
        for (t00, t01), (t10, t11) in ENTRIES:
            table = Table(((t00, t01), (t10, t11)))
            self.assertEqual(table.marks(), (t00, t01, t10, t11))
            self.assertEqual(table.marks(turning=False), (t00, t01, t10, t11))
            self.assertEqual(table.marks(turning=True), (t00, t01 + t10, t11))

    def test_weight(self):
        table = Table(((1, 10), (100, 1000)))
        self.assertEqual([table.weight(pair) for pair in [(1, 0), (0, 1), (1, 1), (2, -3)]], [1, 1000, 1111, 8344])
        for (t00, t01), (t10, t11) in ENTRIES:
            for x, y in WIDE_PAIRS[::13]:
                expected = t00 * x**2 + (t01 + t10) * x * y + t11 * y**2
                self.assertEqual(Table(((t00, t01), (t10, t11))).weight((x, y)), expected)

    def test_determinant(self):
        self.assertEqual(Table(((2, 3), (5, 7))).determinant(), -1)
        for (t00, t01), (t10, t11) in ENTRIES:
            self.assertEqual(Table(((t00, t01), (t10, t11))).determinant(), t00 * t11 - t01 * t10)


class FittingTogether(unittest.TestCase):
    def test_sums_in_any_order(self):
        for one, other, third in all_of([Table(rows) for rows in ENTRIES], repeat=3):
            self.assertEqual(one + other, other + one)
            self.assertEqual((one + other) + third, one + (other + third))

    def test_differences_undo_sums(self):
        for one, other in all_of([Table(rows) for rows in ENTRIES], repeat=2):
            self.assertEqual(one + other - other, one)
            self.assertEqual(one - other, one + -other)
            self.assertEqual(one - one, Table())
            self.assertEqual(one + Table(), one)

    def test_multiples_are_repeated_sums(self):
        for rows in ENTRIES:
            table, total = Table(rows), Table()
            for number in range(6):
                self.assertEqual(table * number, total)
                self.assertEqual(table * -number, -total)
                total = total + table

    def test_areas_of_sums(self):
        for one, other in all_of([Table(rows) for rows in ENTRIES], repeat=2):
            for root in SOME_ROOTS:
                self.assertEqual((one + other).area_for(root), added(one.area_for(root), other.area_for(root)))
                self.assertEqual((one * 12).area_for(root), scaled(one.area_for(root), 12))

    def test_weights_of_sums(self):
        for one, other in all_of([Table(rows) for rows in ENTRIES], repeat=2):
            for pair in FEW_PAIRS:
                self.assertEqual((one + other).weight(pair), one.weight(pair) + other.weight(pair))
                self.assertEqual((one * -3).weight(pair), one.weight(pair) * -3)

    def test_outer_of_sums(self):
        for one, other, third in all_of(FEW_PAIRS, repeat=3):
            self.assertEqual(outer(added(one, other), third), outer(one, third) + outer(other, third))
            self.assertEqual(outer(third, added(one, other)), outer(third, one) + outer(third, other))

    def test_outer_of_multiples(self):
        for one, other, number in all_of(FEW_PAIRS, FEW_PAIRS, NUMBERS):
            self.assertEqual(outer(scaled(one, number), other), outer(one, other) * number)
            self.assertEqual(outer(one, scaled(other, number)), outer(one, other) * number)

    def test_outer_as_a_product(self):
        for one, other in islice(all_of(WIDE_PAIRS[::9], WIDE_PAIRS[::8]), 400):
            self.assertEqual(outer(one, other).determinant(), 0)
            for root in SOME_ROOTS:
                self.assertEqual(outer(one, other).area_for(root), product(one, other, root))
            for x, y in FEW_PAIRS:
                expected = (one[0] * x + one[1] * y) * (other[0] * x + other[1] * y)
                self.assertEqual(outer(one, other).weight((x, y)), expected)

    def test_turned_outer_has_the_same_marks_with_turning(self):
        for one, other in all_of(FEW_PAIRS, repeat=2):
            self.assertEqual(outer(one, other).marks(turning=True), outer(other, one).marks(turning=True))
            self.assertEqual(outer(one, other)[0, 1], outer(other, one)[1, 0])


if __name__ == "__main__":
    unittest.main()
