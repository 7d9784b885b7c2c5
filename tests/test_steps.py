"""Steps, their reverse and their application: points [7] and [8] of the document, and [9] for single steps."""

import unittest
from collections import Counter
from itertools import product as all_of

from grainyard import steps as steps_module
from grainyard.errors import BadStep, NoSheet
from grainyard.heaps import Heap
from grainyard.lengths import sign
from grainyard.steps import after, apply_steps, back_of, check_steps, is_step, walk
from tests.cases import Case
from tests.models import after_by_words, is_step_by_words, random_runs, rows_of, taken_and_made
from tests.samples import SMALL_PAIRS, SOME_ROOTS, TWENTY_DIGITS

SHEET = ((6, -4), (2, 8))
SQUARE = ((1, 0), (1, 0))
STEPS = [
    ("saw", SHEET, "across", (3, -2), 1),
    ("saw", SHEET, "along", (1, 1), 12),
    ("saw", SQUARE, "across", (-7, 5), TWENTY_DIGITS),
    ("split", SHEET, "across", 2, 3),
    ("split", SHEET, "along", 2, 1),
    ("split", ((0, 12), (-5, 7)), "across", 12, 2),
    ("glue", SHEET, ((1, 0), (2, 8)), "across", 1),
    ("glue", SHEET, ((6, -4), (0, 1)), "along", 5),
    ("glue", SQUARE, SQUARE, "along", 2),
    ("glue", SHEET, SHEET, "across", 4),
    ("stack", SHEET, "across", 2, 1),
    ("stack", SHEET, "along", 7, 3),
    ("turn", SHEET, 1),
    ("turn", SQUARE, TWENTY_DIGITS),
]
# Sheets in steps are any tuples of two pairs.
ODD_STEPS = [
    ("saw", ((0, 0), (-1, 0)), "along", (0, 0), 1),
    ("saw", SQUARE, "across", (5, 5), 1),
    ("split", ((0, 0), (1, 0)), "across", 9, 1),
    ("split", ((-4, -6), (1, 0)), "across", 2, 1),
    ("glue", ((-1, 0), (0, 0)), ((-3, 1), (0, 0)), "across", 1),
    ("stack", ((0, -1), (0, 0)), "along", 3, 2),
    ("turn", ((-1, -1), (0, 0)), 8),
]
NO_STEPS = [
    (),
    ("",),
    ("saw",),
    ("turn",),
    ("weld", SHEET, 1),
    ("Turn", SHEET, 1),
    ("turn ", SHEET, 1),
    (SHEET, "turn", 1),
    (1, SHEET, 1),
    ((1, 0), SHEET, 1),
    ("turn", (1, 0), 1),
    ("turn", SHEET, 0),
    ("turn", SHEET, -1),
    ("turn", SHEET, "1"),
    ("turn", SHEET, 1, 1),
    ("saw", SHEET, "across", (3, -2), 0),
    ("saw", SHEET, "across", SHEET, 1),
    ("saw", SHEET, "across", 3, 1),
    ("saw", SHEET, "side", (3, -2), 1),
    ("saw", SHEET, "acros", (3, -2), 1),
    ("saw", SHEET, "Along", (3, -2), 1),
    ("saw", SHEET, "", (3, -2), 1),
    ("split", SHEET, "across", 1, 1),
    ("split", SHEET, "across", 0, 1),
    ("split", SHEET, "across", -2, 1),
    ("split", SHEET, "across", 3, 1),
    ("split", SHEET, "across", 4, 1),
    ("split", SHEET, "along", 4, 1),
    ("split", SHEET, "across", 2, 0),
    ("glue", SHEET, ((1, 0), (2, 8)), "along", 1),
    ("glue", SHEET, ((6, -4), (0, 1)), "across", 1),
    ("glue", SHEET, ((1, 0), (8, 2)), "across", 1),
    ("glue", SHEET, "across", SHEET, 1),
    ("glue", SHEET, SHEET, "across", 0),
    ("stack", SHEET, "across", 1, 1),
    ("stack", SHEET, "across", 0, 1),
    ("stack", SHEET, "across", 2, 0),
    ("stack", SHEET, "across", 2),
]
ITEMS = ["", "across", "along", "saw", "split", "glue", "stack", "turn", "side", -2, -1, 0, 1, 2, 3, 12, TWENTY_DIGITS]
ITEMS += [(1, 0), (0, 0), (3, -2), SHEET, SQUARE, ((1, 0), (2, 8)), ((6, -4), (5, 5)), ((0, 0), (0, 0))]


def changed_steps():
    """Steps with one item changed, removed or added."""
    for step in STEPS:
        for at in range(len(step) + 1):
            yield step[:at] + step[at + 1 :]
            for item in ITEMS:
                yield step[:at] + (item,) + step[at + 1 :]
                yield step[:at] + (item,) + step[at:]


class ForSteps(Case):
    def all_fail(self, kind, attributes, heap, step, **named):
        """Check the error of a single step in all three functions, and that the heap stays."""
        rows = heap.rows()
        self.assertEqual(self.fails(kind, after, heap, step, **named), attributes, step)
        self.assertEqual(self.fails(kind, apply_steps, heap, [step], **named), attributes, step)
        self.assertEqual(self.fails(kind, lambda: list(walk(heap, [step], **named))), attributes, step)
        self.assertEqual(heap.rows(), rows)


class Interface(ForSteps):
    def test_examples(self):
        heap = Heap.of(2, ((3, 0), (1, 1)))
        step = ("saw", ((3, 0), (1, 1)), "across", (0, 1), 1)
        self.assertEqual(after(heap, step).rows(), [(((0, 1), (1, 1)), 1), (((3, -1), (1, 1)), 1)])
        self.assertEqual(back_of(step), ("glue", ((0, 1), (1, 1)), ((3, -1), (1, 1)), "across", 1))
        self.assertEqual(after(after(heap, step), back_of(step)), heap)
        wrong = ("saw", ((1, 0), (1, 0)), "along", (0, 1), 1)
        self.assertEqual(self.fails(BadStep, after, Heap.of(2, ((1, 0), (1, 0))), wrong), {"at": 0})

    def test_defined_there(self):
        for name in ["is_step", "check_steps", "back_of", "after", "walk", "apply_steps"]:
            self.assertEqual(getattr(steps_module, name).__module__, "grainyard.steps")

    def test_arguments_by_name(self):
        heap, step = Heap.of(2, SHEET), ("turn", SHEET, 1)
        self.assertIs(is_step(step=step), True)
        self.assertIsNone(check_steps(steps=[step]))
        self.assertEqual(back_of(step=step), back_of(step))
        expected = after(heap, step, turning=True)
        self.assertEqual(expected, Heap.of(2, SHEET[::-1]))
        self.assertEqual(after(step=step, turning=True, heap=heap), expected)
        self.assertEqual(apply_steps(steps=[step], turning=True, heap=heap), expected)
        self.assertEqual(list(walk(steps=[step], turning=True, heap=heap)), [expected])

    def test_turning_by_name_only(self):
        heap, step = Heap.of(2, SHEET), ("turn", SHEET, 1)
        self.assertRaises(TypeError, after, heap, step, True)
        self.assertRaises(TypeError, apply_steps, heap, [step], True)
        self.assertRaises(TypeError, walk, heap, [step], True)


class IsStep(ForSteps):
    def test_steps(self):
        for step in STEPS + ODD_STEPS:
            self.assertIs(is_step(step), True, step)

    def test_tuples_that_are_no_steps(self):
        for step in NO_STEPS:
            self.assertIs(is_step(step), False, step)

    def test_one_item_changed_removed_or_added(self):
        found = {True: 0, False: 0}
        for step in changed_steps():
            expected = is_step_by_words(step)
            self.assertIs(is_step(step), expected, step)
            found[expected] += 1
        self.assertGreater(found[True], 100)
        self.assertGreater(found[False], 1000)

    def test_sides_and_pieces_of_a_split(self):
        for side, pieces, pair in all_of(["across", "along"], range(-3, 8), SMALL_PAIRS):
            for other in [(1, 0), (60, 60)]:
                sheet = (pair, other) if side == "across" else (other, pair)
                expected = pieces >= 2 and pair[0] % pieces == 0 and pair[1] % pieces == 0
                self.assertIs(is_step(("split", sheet, side, pieces, 1)), expected)

    def test_other_sides_of_a_glue(self):
        pairs = [(1, 0), (0, 1), (-1, 0), (2, 8)]
        for one, other in all_of(list(all_of(pairs, repeat=2)), repeat=2):
            self.assertIs(is_step(("glue", one, other, "across", 1)), one[1] == other[1])
            self.assertIs(is_step(("glue", one, other, "along", 1)), one[0] == other[0])

    def test_copies(self):
        for step in STEPS + ODD_STEPS:
            for copies in range(-3, 4):
                self.assertIs(is_step(step[:-1] + (copies,)), copies >= 1)


class CheckSteps(ForSteps):
    def test_steps(self):
        for steps in [[], (), STEPS, tuple(STEPS), ODD_STEPS, (STEPS * 20)[:200]]:
            self.assertIsNone(check_steps(steps))

    def test_index_of_the_first_item_that_is_no_step(self):
        for wrong, place in all_of(NO_STEPS, [0, 1, 5, len(STEPS)]):
            steps = STEPS[:place] + [wrong] + STEPS[place:]
            for passed in [steps, tuple(steps), [*steps, ()]]:
                self.assertEqual(self.fails(BadStep, check_steps, passed), {"at": place})

    def test_a_turn_is_a_step_here(self):
        self.assertIsNone(check_steps([("turn", SHEET, 1)]))


class BackOf(ForSteps):
    def test_by_the_words(self):
        expected = [
            ("glue", ((3, -2), (2, 8)), ((3, -2), (2, 8)), "across", 1),
            ("glue", ((6, -4), (1, 1)), ((6, -4), (1, 7)), "along", 12),
            ("glue", ((-7, 5), (1, 0)), ((8, -5), (1, 0)), "across", TWENTY_DIGITS),
            ("stack", ((3, -2), (2, 8)), "across", 2, 3),
            ("stack", ((6, -4), (1, 4)), "along", 2, 1),
            ("stack", ((0, 1), (-5, 7)), "across", 12, 2),
            ("saw", ((7, -4), (2, 8)), "across", (6, -4), 1),
            ("saw", ((6, -4), (2, 9)), "along", (2, 8), 5),
            ("saw", ((1, 0), (2, 0)), "along", (1, 0), 2),
            ("saw", ((12, -8), (2, 8)), "across", (6, -4), 4),
            ("split", ((12, -8), (2, 8)), "across", 2, 1),
            ("split", ((6, -4), (14, 56)), "along", 7, 3),
            ("turn", ((2, 8), (6, -4)), 1),
            ("turn", SQUARE, TWENTY_DIGITS),
        ]
        self.assertEqual([back_of(step) for step in STEPS], expected)

    def test_odd_steps(self):
        expected = [
            ("glue", ((0, 0), (0, 0)), ((0, 0), (-1, 0)), "along", 1),
            ("glue", ((5, 5), (1, 0)), ((-4, -5), (1, 0)), "across", 1),
            ("stack", ((0, 0), (1, 0)), "across", 9, 1),
            ("stack", ((-2, -3), (1, 0)), "across", 2, 1),
            ("saw", ((-4, 1), (0, 0)), "across", (-1, 0), 1),
            ("split", ((0, -1), (0, 0)), "along", 3, 2),
            ("turn", ((0, 0), (-1, -1)), 8),
        ]
        self.assertEqual([back_of(step) for step in ODD_STEPS], expected)

    def test_reverse_of_the_reverse(self):
        for step in STEPS + ODD_STEPS + [step for step in changed_steps() if is_step_by_words(step)]:
            back = back_of(step)
            self.assertIs(type(back), tuple)
            self.assertIs(is_step(back), True)
            self.assertEqual(back_of(back), step)
            self.assertEqual(taken_and_made(back), taken_and_made(step)[::-1])

    def test_no_steps(self):
        for step in NO_STEPS:
            self.assertEqual(self.fails(BadStep, back_of, step), {"at": 0})

    def test_it_undoes_the_step(self):
        for root, first, steps, _ in random_runs(SOME_ROOTS, True):
            heap = Heap(root, rows_of(first))
            for step in steps:
                behind = after(heap, step, turning=True)
                self.assertEqual(after(behind, back_of(step), turning=True), heap)
                heap = behind


class After(ForSteps):
    def test_each_kind_and_each_side(self):
        further = ((5, 5), (9, 9))
        for step in STEPS:
            taken, made = taken_and_made(step)
            for stock in [taken, taken + taken, taken + Counter({further: 3}), taken + made]:
                heap = Heap(2, rows_of(stock))
                self.assertEqual(after(heap, step, turning=True).rows(), rows_of(after_by_words(stock, step)), step)
                self.assertEqual(heap.rows(), rows_of(stock))

    def test_saw(self):
        heap = Heap(2, [(((5, 0), (1, 0)), 3)])
        behind = after(heap, ("saw", ((5, 0), (1, 0)), "across", (2, 1), 2))
        self.assertEqual(behind.rows(), [(((2, 1), (1, 0)), 2), (((3, -1), (1, 0)), 2), (((5, 0), (1, 0)), 1)])
        behind = after(heap, ("saw", ((5, 0), (1, 0)), "along", (-1, 1), 3))
        self.assertEqual(behind.rows(), [(((5, 0), (-1, 1)), 3), (((5, 0), (2, -1)), 3)])

    def test_saw_into_equal_pieces(self):
        behind = after(Heap(2, [(((4, 2), (1, 0)), 3)]), ("saw", ((4, 2), (1, 0)), "across", (2, 1), 2))
        self.assertEqual(behind.rows(), [(((2, 1), (1, 0)), 4), (((4, 2), (1, 0)), 1)])

    def test_split(self):
        behind = after(Heap(2, [(((6, -3), (2, 4)), 5)]), ("split", ((6, -3), (2, 4)), "across", 3, 4))
        self.assertEqual(behind.rows(), [(((2, -1), (2, 4)), 12), (((6, -3), (2, 4)), 1)])
        behind = after(Heap(2, [(((6, -3), (2, 4)), 5)]), ("split", ((6, -3), (2, 4)), "along", 2, 5))
        self.assertEqual(behind.rows(), [(((6, -3), (1, 2)), 10)])

    def test_glue(self):
        heap = Heap(2, [(((1, 0), (0, 1)), 3), (((2, 1), (0, 1)), 2), (((1, 0), (5, 5)), 1)])
        behind = after(heap, ("glue", ((1, 0), (0, 1)), ((2, 1), (0, 1)), "across", 2))
        self.assertEqual(behind.rows(), [(((1, 0), (0, 1)), 1), (((1, 0), (5, 5)), 1), (((3, 1), (0, 1)), 2)])
        behind = after(heap, ("glue", ((1, 0), (5, 5)), ((1, 0), (0, 1)), "along", 1))
        self.assertEqual(behind.rows(), [(((1, 0), (0, 1)), 2), (((1, 0), (5, 6)), 1), (((2, 1), (0, 1)), 2)])

    def test_glue_of_two_equal_sheets(self):
        step = ("glue", SQUARE, SQUARE, "across", 3)
        self.assertEqual(after(Heap(2, [(SQUARE, 7)]), step).rows(), [(SQUARE, 1), (((2, 0), (1, 0)), 3)])
        self.assertEqual(after(Heap(2, [(SQUARE, 6)]), step).rows(), [(((2, 0), (1, 0)), 3)])
        for count in [1, 3, 5]:
            self.all_fail(NoSheet, {"sheet": SQUARE}, Heap(2, [(SQUARE, count)]), step)

    def test_stack(self):
        step = ("stack", SQUARE, "along", 3, 2)
        self.assertEqual(after(Heap(2, [(SQUARE, 7)]), step).rows(), [(SQUARE, 1), (((1, 0), (3, 0)), 2)])
        self.assertEqual(after(Heap(2, [(SQUARE, 6)]), step).rows(), [(((1, 0), (3, 0)), 2)])
        for count in [1, 2, 3, 5]:
            self.all_fail(NoSheet, {"sheet": SQUARE}, Heap(2, [(SQUARE, count)]), step)

    def test_turn(self):
        heap = Heap(2, [(SHEET, 3)])
        self.assertEqual(after(heap, ("turn", SHEET, 2), turning=True).rows(), [(SHEET[::-1], 2), (SHEET, 1)])
        self.assertEqual(after(heap, ("turn", SHEET, 3), turning=True).rows(), [(SHEET[::-1], 3)])
        square = Heap(2, [(SQUARE, 3)])
        self.assertEqual(after(square, ("turn", SQUARE, 2), turning=True), square)

    def test_turn_without_turning(self):
        for heap in [Heap.of(2, SHEET), Heap.of(2, SQUARE), Heap(2)]:
            for step in [("turn", SHEET, 1), ("turn", SQUARE, 1), ("turn", SQUARE, 5)]:
                self.all_fail(BadStep, {"at": 0}, heap, step)
                self.all_fail(BadStep, {"at": 0}, heap, step, turning=False)

    def test_other_steps_with_turning(self):
        for step in STEPS:
            heap = Heap(2, rows_of(taken_and_made(step)[0]))
            if step[0] != "turn":
                self.assertEqual(after(heap, step, turning=True), after(heap, step))
                self.assertEqual(after(heap, step, turning=False), after(heap, step))

    def test_copies_that_are_needed(self):
        for step in STEPS:
            taken = taken_and_made(step)[0]
            for sheet in taken:
                for few in {0, 1, taken[sheet] // 2, taken[sheet] - 1} - {taken[sheet]}:
                    stock = Counter(taken)
                    stock[sheet] = few
                    self.all_fail(NoSheet, {"sheet": sheet}, Heap(2, rows_of(stock)), step, turning=True)

    def test_first_sheet_of_the_step_of_which_there_are_too_few(self):
        small, great = ((1, 0), (1, 0)), ((2, 0), (1, 0))
        for one, other in [(small, great), (great, small)]:
            step = ("glue", one, other, "across", 2)
            self.all_fail(NoSheet, {"sheet": one}, Heap(2), step)
            self.all_fail(NoSheet, {"sheet": one}, Heap(2, [(one, 1), (other, 1)]), step)
            self.all_fail(NoSheet, {"sheet": one}, Heap(2, [(one, 1), (other, 2)]), step)
            self.all_fail(NoSheet, {"sheet": other}, Heap(2, [(one, 2), (other, 1)]), step)
            self.all_fail(NoSheet, {"sheet": other}, Heap(2, [(one, 2)]), step)

    def test_turned_copies_do_not_count(self):
        heap = Heap(2, [(SHEET[::-1], 9)])
        for step in [("split", SHEET, "across", 2, 1), ("stack", SHEET, "along", 2, 1), ("turn", SHEET, 1)]:
            self.all_fail(NoSheet, {"sheet": SHEET}, heap, step, turning=True)

    def test_sheets_that_no_heap_has(self):
        for step in ODD_STEPS[2:]:
            self.all_fail(NoSheet, {"sheet": step[1]}, Heap(2, [(SQUARE, 9)]), step, turning=True)
        step = ("saw", ((2, 0), (0, 0)), "across", (1, 0), 1)
        self.all_fail(NoSheet, {"sheet": step[1]}, Heap(2, [(SQUARE, 9)]), step)

    def test_bad_step_ahead_of_no_sheet(self):
        for step, heap in all_of(NO_STEPS, [Heap(2), Heap(2, [(SHEET, 9), (SQUARE, 9)])]):
            self.all_fail(BadStep, {"at": 0}, heap, step)
            self.all_fail(BadStep, {"at": 0}, heap, step, turning=True)

    def test_parts_and_rests_that_are_no_lengths(self):
        for root in [2, 3, 61]:
            for side, part in all_of(["across", "along"], SMALL_PAIRS):
                side_pair = (5, -1) if root < 25 else (-5, 1)
                sheet = (side_pair, (1, 1)) if side == "across" else ((1, 1), side_pair)
                step = ("saw", sheet, side, part, 1)
                rest = (side_pair[0] - part[0], side_pair[1] - part[1])
                if sign(part, root) > 0 and sign(rest, root) > 0:
                    expected = rows_of(after_by_words(Counter({sheet: 2}), step))
                    self.assertEqual(after(Heap(root, [(sheet, 2)]), step).rows(), expected)
                    self.all_fail(NoSheet, {"sheet": sheet}, Heap(root), step)
                else:
                    self.all_fail(BadStep, {"at": 0}, Heap(root, [(sheet, 2)]), step)
                    self.all_fail(BadStep, {"at": 0}, Heap(root), step)

    def test_whole_side_as_part_leaves_no_rest(self):
        for side, part in [("across", SHEET[0]), ("along", SHEET[1])]:
            self.all_fail(BadStep, {"at": 0}, Heap.of(2, SHEET), ("saw", SHEET, side, part, 1))

    def test_parts_by_the_root_of_the_heap(self):
        step = ("saw", ((5, 0), (1, 0)), "across", (0, 2), 1)
        self.assertEqual(len(after(Heap.of(6, step[1]), step)), 2)
        self.all_fail(BadStep, {"at": 0}, Heap.of(7, step[1]), step)

    def test_result_has_the_root(self):
        for root in SOME_ROOTS:
            behind = after(Heap.of(root, SQUARE), ("turn", SQUARE, 1), turning=True)
            self.assertEqual(behind.root, root)
            self.assertIs(type(behind), Heap)

    def test_last_sheets_leave_no_row(self):
        step = ("stack", SQUARE, "across", 2, 1)
        behind = after(Heap(2, [(SQUARE, 2)]), step)
        self.assertEqual((len(behind), behind.count(SQUARE), SQUARE in behind), (1, 0, False))


class Walks(ForSteps):
    heap = Heap(2, [(((4, 0), (1, 0)), 2)])
    good = [
        ("split", ((4, 0), (1, 0)), "across", 2, 2),
        ("glue", ((2, 0), (1, 0)), ((2, 0), (1, 0)), "along", 1),
        ("saw", ((2, 0), (2, 0)), "along", (0, 1), 1),
        ("stack", ((2, 0), (1, 0)), "along", 2, 1),
    ]

    def test_one_heap_for_each_step(self):
        for turning in [False, True]:
            for root, first, steps, counters in random_runs(SOME_ROOTS, turning):
                heap = Heap(root, rows_of(first))
                for passed in [steps, tuple(steps)]:
                    heaps = list(walk(heap, passed, turning=turning))
                    self.assertEqual([one.rows() for one in heaps], [rows_of(counter) for counter in counters])
                    self.assertEqual(apply_steps(heap, passed, turning=turning), heaps[-1])
                one_by_one = heap
                for step, expected in zip(steps, heaps):
                    one_by_one = after(one_by_one, step, turning=turning)
                    self.assertEqual(one_by_one, expected)
                self.assertEqual(heap.rows(), rows_of(first))

    def test_no_steps(self):
        for steps in [[], ()]:
            self.assertEqual(list(walk(self.heap, steps)), [])
            self.assertEqual(apply_steps(self.heap, steps), self.heap)
            self.assertEqual(apply_steps(Heap(3), steps, turning=True), Heap(3))

    def test_each_when_it_is_asked_for(self):
        for wrong in NO_STEPS + [("turn", ((2, 0), (1, 0)), 1)]:
            waiting = walk(self.heap, [self.good[0], wrong, self.good[1]])
            self.assertEqual(next(waiting), after(self.heap, self.good[0]))
            self.assertEqual(self.fails(BadStep, next, waiting), {"at": 1})

    def test_index_of_the_wrong_step(self):
        wrong_part = ("saw", ((2, 0), (1, 0)), "across", (0, 2), 1)
        for place, wrong in all_of(range(5), [(), wrong_part, ("turn", ((2, 0), (1, 0)), 1), ("split", SQUARE)]):
            steps = self.good[:place] + [wrong] + self.good[place:]
            for passed in [steps, tuple(steps), [*steps, ()]]:
                waiting = walk(self.heap, passed)
                heaps = [next(waiting) for _ in range(place)]
                self.assertEqual(heaps, list(walk(self.heap, self.good[:place])))
                self.assertEqual(self.fails(BadStep, next, waiting), {"at": place})
                self.assertEqual(self.fails(BadStep, apply_steps, self.heap, passed), {"at": place})

    def test_sheets_that_are_missing(self):
        missing = ("stack", ((4, 0), (1, 0)), "along", 2, 1)
        for place in range(1, 5):
            steps = self.good[:place] + [missing] + self.good[place:] + [()]
            waiting = walk(self.heap, steps)
            heaps = [next(waiting) for _ in range(place)]
            self.assertEqual(len(heaps), place)
            self.assertEqual(self.fails(NoSheet, next, waiting), {"sheet": ((4, 0), (1, 0))})
            self.assertEqual(self.fails(NoSheet, apply_steps, self.heap, steps), {"sheet": ((4, 0), (1, 0))})

    def test_first_wrong_step_decides(self):
        missing = ("stack", SQUARE, "along", 2, 1)
        self.assertEqual(self.fails(NoSheet, apply_steps, self.heap, [missing, ()]), {"sheet": SQUARE})
        self.assertEqual(self.fails(BadStep, apply_steps, self.heap, [(), missing]), {"at": 0})

    def test_turns_in_the_middle(self):
        steps = [self.good[0], ("turn", ((2, 0), (1, 0)), 3)]
        expected = Heap(2, [(((2, 0), (1, 0)), 1), (((1, 0), (2, 0)), 3)])
        self.assertEqual(apply_steps(self.heap, steps, turning=True), expected)
        self.assertEqual(list(walk(self.heap, steps, turning=True))[1], expected)
        self.assertEqual(self.fails(BadStep, apply_steps, self.heap, steps), {"at": 1})

    def test_loop_that_stops_in_the_middle(self):
        expected = list(walk(self.heap, self.good))
        for stop in range(1, 5):
            found = []
            for heap in walk(self.heap, self.good):
                found.append(heap)
                if len(found) == stop:
                    break
            self.assertEqual(found, expected[:stop])
            self.assertEqual(self.heap.rows(), [(((4, 0), (1, 0)), 2)])

    def test_two_loops_at_once(self):
        pairs = list(zip(walk(self.heap, self.good), walk(self.heap, self.good)))
        self.assertEqual([one for one, _ in pairs], [other for _, other in pairs])

    def test_heaps_that_were_yielded_stay(self):
        heaps, rows = [], []
        for heap in walk(self.heap, self.good):
            heaps.append(heap)
            rows.append(heap.rows())
        self.assertEqual([heap.rows() for heap in heaps], rows)

    def test_list_that_is_changed_in_the_loop(self):
        steps = list(self.good)
        waiting = walk(self.heap, steps)
        next(waiting)
        steps.clear()
        self.assertEqual(list(waiting), list(walk(self.heap, self.good))[1:])

    def test_arguments_stay(self):
        steps = list(self.good)
        list(walk(self.heap, steps))
        apply_steps(self.heap, steps)
        check_steps(steps)
        self.assertEqual(steps, self.good)
        self.assertEqual(self.heap.rows(), [(((4, 0), (1, 0)), 2)])

    def test_results_can_be_passed_back(self):
        heap = Heap.of(2, SQUARE)
        sheet = SQUARE
        for _ in range(60):
            heap = after(heap * 10**19, ("stack", sheet, "across", 10**19, 1))
            sheet = heap.rows()[0][0]
        self.assertEqual(heap.rows(), [(((10 ** (19 * 60), 0), (1, 0)), 1)])


class FittingTogether(ForSteps):
    def test_no_step_changes_the_area_and_only_a_turn_the_table(self):
        for turning in [False, True]:
            words = set()
            for root, first, steps, _ in random_runs(SOME_ROOTS, turning):
                before = heap = Heap(root, rows_of(first))
                for step, behind in zip(steps, walk(heap, steps, turning=turning)):
                    words.add(step[0])
                    self.assertEqual(behind.area, before.area)
                    self.assertEqual(behind.table().marks(turning=True), heap.table().marks(turning=True))
                    if step[0] != "turn":
                        self.assertEqual(behind.table(), before.table())
                    before = behind
            self.assertEqual(words, {"saw", "split", "glue", "stack"} | ({"turn"} if turning else set()))

    def test_a_turn_exchanges_parts_of_two_entries(self):
        heap = Heap(2, [(((1, 2), (3, 5)), 4), (SQUARE, 1)])
        table = after(heap, ("turn", ((1, 2), (3, 5)), 3), turning=True).table()
        self.assertEqual((heap.table().rows(), table.rows()), (((13, 20), (24, 40)), ((13, 23), (21, 40))))

    def test_reverse_steps_in_reverse_order(self):
        for root, first, steps, counters in random_runs(SOME_ROOTS, True):
            last = Heap(root, rows_of(counters[-1]))
            back = [back_of(step) for step in steps[::-1]]
            self.assertEqual(apply_steps(last, back, turning=True).rows(), rows_of(first))

    def test_further_sheets_stay(self):
        for root, first, steps, counters in random_runs([2, 61], True):
            further = Heap.of(root, SQUARE, ((0, 77), (1, 0)))
            heap = Heap(root, rows_of(first)) + further
            self.assertEqual(apply_steps(heap, steps, turning=True), Heap(root, rows_of(counters[-1])) + further)


if __name__ == "__main__":
    unittest.main()
