"""Yards: point [15] of the document."""

import unittest
from collections import Counter
from itertools import permutations
from itertools import product as all_of
from random import Random

from grainyard import yards
from grainyard.cutting import can_cut, rest_of
from grainyard.errors import (
    BadCount,
    BadDeed,
    BadName,
    BadRoot,
    BadRow,
    BadSheet,
    BadStep,
    Full,
    NoName,
    NoOrder,
    NoSheet,
    NotEnough,
    NothingLeft,
    Taken,
)
from grainyard.heaps import Heap
from grainyard.tables import Table
from grainyard.tallies import Journal
from grainyard.yards import Yard, is_name
from tests.cases import UNITS, Case
from tests.models import random_step, rows_of
from tests.samples import ROOTS, TWENTY_DIGITS
from tests.yard_model import Wrong, YardModel

SHEET, OTHER = ((4, 0), (1, 0)), ((0, 1), (3, 1))
NO_SHEETS = [((0, 0), (1, 0)), ((1, 0), (-1, 0)), ((1, -1), (-1, 0))]
NO_NAMES = ["", "Oak", "oaktreees", "oak ", " oak", "o k", "oak1", "o-k", "oak\n", "a" * 9, "_", "ab.", "~", "OAK"]
TWELVE = [letter * 3 for letter in "abcdefghijkl"]
SPLIT = ("split", SHEET, "across", 2, 1)
BRING = ("bring", "oak", SHEET, 3)
ORDER = ("order", "door", [(UNITS[0], 2)])


def filled(root=2, **named):
    """A yard with two heaps and an order, made by one batch."""
    yard = Yard(root, **named)
    yard.do_all([BRING, ("bring", "ash", OTHER, 1), ORDER])
    return yard


def state_of(yard):
    """All that can be seen of a yard."""
    heaps = {name: yard.heap(name).rows() for name in yard.names()}
    orders = {name: yard.order(name).rows() for name in yard.orders()}
    return heaps, orders, yard.history, yard.depth, yard.turning, yard.root


class ForYards(Case):
    def stays(self, kind, attributes, yard, *deeds):
        """Check the error of a batch, also behind good deeds, and that nothing changes."""
        before = state_of(yard)
        self.assertEqual(self.fails(kind, yard.do_all, list(deeds)), attributes)
        self.assertEqual(self.fails(kind, yard.do_all, deeds), attributes)
        if len(deeds) == 1 and "at" not in attributes:
            self.assertEqual(self.fails(kind, yard.do, deeds[0]), attributes)
            self.assertEqual(self.fails(kind, yard.do_all, [deeds[0], ("drop", "nowhere")]), attributes)
        self.assertEqual(state_of(yard), before)


class Interface(ForYards):
    def test_examples(self):
        yard = Yard(2)
        sheet = ((5, 0), (1, 0))
        yard.do_all([("bring", "oak", sheet, 2), ("order", "door", [(((1, 1), (1, 0)), 1)])])
        yard.do(("step", "oak", ("saw", sheet, "across", (2, 0), 1)))
        expected = [(((2, 0), (1, 0)), 1), (((3, 0), (1, 0)), 1), (sheet, 1)]
        self.assertEqual(yard.heap("oak").rows(), expected)
        self.assertIs(yard.fillable("oak", "door", "door"), True)
        self.assertEqual(yard.history, (2, 0))
        yard = Yard(2)
        deeds = [("bring", "oak", UNITS[0], 1), ("sell", "oak", UNITS[0], 2)]
        self.assertEqual(self.fails(NoSheet, yard.do_all, deeds), {"sheet": UNITS[0]})

    def test_defined_there(self):
        self.assertEqual([yards.is_name.__module__, Yard.__module__], ["grainyard.yards"] * 2)
        names = "MOST MOST_DEPTH root turning history depth change_depth do do_all undo redo names orders heap order"
        for name in (names + " table fillable attach twin").split():
            self.assertIn(name, vars(Yard))

    def test_class_values(self):
        self.assertEqual([Yard.MOST, Yard.MOST_DEPTH, Yard(2).MOST, Yard(2).MOST_DEPTH], [12, 100, 12, 100])

    def test_arguments_by_name(self):
        self.assertIs(is_name(text="oak"), True)
        yard = Yard(depth=7, root=3, turning=True)
        self.assertEqual((yard.root, yard.turning, yard.depth), (3, True, 7))
        self.assertIsNone(yard.do(deed=BRING))
        self.assertIsNone(yard.do_all(deeds=[ORDER]))
        self.assertEqual(yard.heap(name="oak"), yard.heap("oak"))
        self.assertEqual(yard.order(name="door"), yard.order("door"))
        self.assertIs(yard.fillable(name="oak"), True)
        self.assertIsNone(yard.change_depth(value=3))
        self.assertIsNone(yard.attach(tally=Journal()))
        self.assertEqual(yard.depth, 3)

    def test_turning_and_depth_by_name_only(self):
        self.assertRaises(TypeError, Yard, 2, True)

    def test_results(self):
        yard = filled()
        self.assertEqual([yard.undo(), yard.redo(), yard.do(("drop", "door"))], [None] * 3)


class Names(ForYards):
    def test_names(self):
        for text in ["a", "z", "oak", "abcdefgh", "ijklmnop", "qrstuvwx", "yz", "zzzzzzzz"]:
            self.assertIs(is_name(text), True)

    def test_others(self):
        for text in NO_NAMES + ["a" * 20000, "abcdefghi", "\n", "a\nb", " ", "{", "`", "a@", "b[", "0"]:
            self.assertIs(is_name(text), False)

    def test_each_character(self):
        for code in [10, *range(32, 127)]:
            for text in [chr(code), f"ab{chr(code)}", f"{chr(code)}ab"]:
                self.assertIs(is_name(text), 97 <= code <= 122)


class Building(ForYards):
    def test_attributes(self):
        for root in ROOTS:
            yard = Yard(root)
            self.assertEqual(state_of(yard), ({}, {}, (0, 0), 100, False, root))
        for turning, depth in all_of([False, True], [0, 1, 50, 99, 100]):
            yard = Yard(2, turning=turning, depth=depth)
            self.assertEqual((yard.turning, yard.depth, yard.history), (turning, depth, (0, 0)))

    def test_bad_root_ahead_of_bad_count(self):
        for root in [-2, 0, 1, 4, 49, 81, 100, TWENTY_DIGITS]:
            for depth in [100, -1, 101]:
                self.assertEqual(self.fails(BadRoot, Yard, root, depth=depth), {"number": root})

    def test_wrong_depths(self):
        for depth in [-1, -2, 101, 102, 1000, TWENTY_DIGITS, -TWENTY_DIGITS]:
            self.assertEqual(self.fails(BadCount, Yard, 2, depth=depth), {"number": depth})

    def test_properties(self):
        for name in ["root", "turning", "history", "depth"]:
            self.assertIsInstance(vars(Yard)[name], property)
        for name in ["root", "turning", "history"]:
            self.assertRaises(AttributeError, setattr, Yard(2), name, 3)


class SingleDeeds(ForYards):
    def test_bring(self):
        yard = Yard(2)
        yard.do(BRING)
        yard.do(("bring", "oak", SHEET, 2))
        yard.do(("bring", "oak", OTHER, TWENTY_DIGITS))
        yard.do(("bring", "ash", OTHER, 1))
        self.assertEqual(yard.heap("oak").rows(), [(OTHER, TWENTY_DIGITS), (SHEET, 5)])
        self.assertEqual((yard.heap("ash").rows(), yard.names()), ([(OTHER, 1)], ["ash", "oak"]))

    def test_errors_of_bring(self):
        yard = filled()
        for name, sheet, copies in all_of(NO_NAMES, [SHEET, NO_SHEETS[0]], [1, 0]):
            self.stays(BadName, {"name": name}, yard, ("bring", name, sheet, copies))
        for name, sheet, copies in all_of(["oak", "elm"], NO_SHEETS, [1, 0, -1]):
            self.stays(BadSheet, {}, yard, ("bring", name, sheet, copies))
        for name, copies in all_of(["oak", "elm"], [0, -1, -TWENTY_DIGITS]):
            self.stays(BadCount, {"number": copies}, yard, ("bring", name, SHEET, copies))

    def test_12_heaps(self):
        yard = Yard(2)
        for name in TWELVE:
            yard.do(("bring", name, SHEET, 1))
        self.stays(Full, {"most": 12}, yard, ("bring", "oak", SHEET, 1))
        self.stays(BadName, {"name": "Oak"}, yard, ("bring", "Oak", SHEET, 1))
        self.stays(BadSheet, {}, yard, ("bring", "oak", NO_SHEETS[0], 0))
        self.stays(BadCount, {"number": 0}, yard, ("bring", "oak", SHEET, 0))
        self.stays(Full, {"most": 12}, yard, ("move", "aaa", "oak", SHEET, 1))
        self.stays(NoSheet, {"sheet": SHEET}, yard, ("move", "aaa", "oak", SHEET, 2))
        yard.do(("bring", "aaa", SHEET, 1))
        yard.do(("move", "aaa", "bbb", SHEET, 2))
        yard.do(("sell", "bbb", SHEET, 3))
        self.stays(Full, {"most": 12}, yard, ("bring", "oak", SHEET, 1))
        self.assertEqual((yard.names(), len(yard)), (TWELVE, 12))
        self.stays(Full, {"most": 12}, Yard(2), *[("bring", name, SHEET, 1) for name in [*TWELVE, "oak"]])

    def test_sell(self):
        yard = filled()
        yard.do(("sell", "oak", SHEET, 1))
        self.assertEqual(yard.heap("oak").rows(), [(SHEET, 2)])
        yard.do(("sell", "oak", SHEET, 2))
        self.assertEqual((yard.heap("oak"), yard.names()), (Heap(2), ["ash", "oak"]))
        self.stays(NoSheet, {"sheet": SHEET}, yard, ("sell", "oak", SHEET, 1))

    def test_errors_of_sell(self):
        yard = filled()
        for name, sheet, copies in all_of(["elm", "door", *NO_NAMES], [SHEET, NO_SHEETS[0]], [1, 0]):
            self.stays(NoName, {"name": name}, yard, ("sell", name, sheet, copies))
        for sheet, copies in all_of(NO_SHEETS, [1, 0, 99]):
            self.stays(BadSheet, {}, yard, ("sell", "oak", sheet, copies))
        for sheet, copies in all_of([SHEET, OTHER], [0, -1]):
            self.stays(BadCount, {"number": copies}, yard, ("sell", "oak", sheet, copies))
        for sheet, copies in [(SHEET, 4), (OTHER, 1), (SHEET[::-1], 1), (SHEET, TWENTY_DIGITS)]:
            self.stays(NoSheet, {"sheet": sheet}, yard, ("sell", "oak", sheet, copies))

    def test_move(self):
        yard = filled()
        yard.do(("move", "oak", "ash", SHEET, 1))
        self.assertEqual([yard.heap("oak").rows(), yard.heap("ash").rows()], [[(SHEET, 2)], [(OTHER, 1), (SHEET, 1)]])
        yard.do(("move", "oak", "elm", SHEET, 2))
        self.assertEqual([yard.heap("oak").rows(), yard.heap("elm").rows()], [[], [(SHEET, 2)]])
        self.assertEqual(yard.names(), ["ash", "elm", "oak"])

    def test_move_within_the_same_heap(self):
        yard = filled()
        for copies in [1, 2, 3]:
            before = yard.heap("oak")
            yard.do(("move", "oak", "oak", SHEET, copies))
            self.assertEqual(yard.heap("oak"), before)
        self.stays(NoSheet, {"sheet": SHEET}, yard, ("move", "oak", "oak", SHEET, 4))
        self.assertEqual(yard.history, (4, 0))

    def test_errors_of_move(self):
        yard = filled()
        for name, second, sheet in all_of(["elm", "door", "Oak", ""], ["ash", "elm", "Ash"], [SHEET, NO_SHEETS[0]]):
            self.stays(NoName, {"name": name}, yard, ("move", name, second, sheet, 0))
        for second, sheet, copies in all_of(NO_NAMES, [SHEET, NO_SHEETS[0]], [1, 0, 9]):
            self.stays(BadName, {"name": second}, yard, ("move", "oak", second, sheet, copies))
        for second, sheet, copies in all_of(["ash", "elm", "oak"], NO_SHEETS, [1, 0]):
            self.stays(BadSheet, {}, yard, ("move", "oak", second, sheet, copies))
        for second, sheet, copies in all_of(["ash", "elm", "oak"], [SHEET, OTHER], [0, -7]):
            self.stays(BadCount, {"number": copies}, yard, ("move", "oak", second, sheet, copies))
        for second, (sheet, copies) in all_of(["ash", "elm", "oak"], [(SHEET, 4), (OTHER, 1)]):
            self.stays(NoSheet, {"sheet": sheet}, yard, ("move", "oak", second, sheet, copies))

    def test_step(self):
        yard = filled()
        yard.do(("step", "oak", SPLIT))
        self.assertEqual(yard.heap("oak").rows(), [(((2, 0), (1, 0)), 2), (SHEET, 2)])
        self.assertEqual(yard.heap("ash").rows(), [(OTHER, 1)])
        turning = filled(turning=True)
        turning.do(("step", "oak", ("turn", SHEET, 3)))
        self.assertEqual(turning.heap("oak").rows(), [(SHEET[::-1], 3)])

    def test_errors_of_step(self):
        yard = filled()
        for name, step in all_of(["elm", "door", "Oak"], [SPLIT, (), ("turn", SHEET, 1)]):
            self.stays(NoName, {"name": name}, yard, ("step", name, step))
        wrong = [(), ("weld",), SPLIT[:-1], ("turn", SHEET, 1), ("turn", OTHER, 1), ("saw", SHEET, "across", (4, 0), 1)]
        for step in wrong + [("saw", OTHER, "across", (2, 0), 1), ("split", SHEET, "across", 3, 1)]:
            self.stays(BadStep, {"at": 0}, yard, ("step", "oak", step))
            self.assertEqual(self.fails(BadStep, yard.do_all, [BRING, BRING, ("step", "oak", step)]), {"at": 0})
        self.stays(NoSheet, {"sheet": OTHER}, yard, ("step", "oak", ("stack", OTHER, "along", 2, 1)))
        self.stays(NoSheet, {"sheet": SHEET}, yard, ("step", "oak", SPLIT[:-1] + (4,)))

    def test_order(self):
        yard = Yard(2)
        yard.do(("order", "door", [(UNITS[0], 2), (OTHER, 1), (UNITS[0], 5)]))
        yard.do(("order", "empty", []))
        yard.do(("order", "oak", ((OTHER, 1),)))
        self.assertEqual(yard.order("door").rows(), [(OTHER, 1), (UNITS[0], 7)])
        self.assertEqual([yard.order("empty"), yard.order("oak")], [Heap(2), Heap.of(2, OTHER)])
        self.assertEqual((yard.orders(), yard.names(), len(yard)), (["door", "empty", "oak"], [], 0))

    def test_rows_that_are_changed_after_the_call(self):
        rows = [(UNITS[0], 2)]
        yard = Yard(2)
        yard.do(("order", "door", rows))
        rows.append((OTHER, 1))
        rows[0] = (OTHER, 7)
        self.assertEqual(yard.order("door").rows(), [(UNITS[0], 2)])
        yard.undo()
        rows.clear()
        yard.redo()
        self.assertEqual(yard.order("door").rows(), [(UNITS[0], 2)])

    def test_errors_of_order(self):
        yard = filled()
        bad = [[(UNITS[0], 0)], [(UNITS[0], 1), (NO_SHEETS[0], 1)], [(UNITS[0], 1), (OTHER, 1), (OTHER, -1), (OTHER, 0)]]
        for name, rows in all_of(NO_NAMES, [[], *bad]):
            self.stays(BadName, {"name": name}, yard, ("order", name, rows))
        for rows in [[], *bad]:
            self.stays(Taken, {"name": "door"}, yard, ("order", "door", rows))
        for at, rows in enumerate(bad):
            self.stays(BadRow, {"at": at}, yard, ("order", "table", rows))
            self.stays(BadRow, {"at": at}, yard, ("order", "table", tuple(rows)))

    def test_12_orders(self):
        yard = Yard(2)
        for name in TWELVE:
            yard.do(("order", name, []))
        self.stays(Full, {"most": 12}, yard, ("order", "oak", []))
        self.stays(Full, {"most": 12}, yard, ("order", "oak", [(UNITS[0], 0)]))
        self.stays(Taken, {"name": "aaa"}, yard, ("order", "aaa", []))
        self.stays(BadName, {"name": "Oak"}, yard, ("order", "Oak", []))
        yard.do_all([("drop", "aaa"), ("order", "oak", []), ("bring", "aaa", SHEET, 1)])
        self.assertEqual(yard.orders(), sorted([*TWELVE[1:], "oak"]))

    def test_fill(self):
        for turning in [False, True]:
            for rows in [[(UNITS[0], 2)], [], [(((1, 1), (1, 0)), 1), (((0, 1), (1, 0)), 2)], [(((6, 0), (2, 0)), 1)]]:
                yard = Yard(2, turning=turning)
                yard.do_all([BRING, ("order", "door", rows), ("order", "oak", [])])
                before = yard.heap("oak")
                yard.do(("fill", "door", "oak"))
                self.assertEqual(yard.heap("oak"), rest_of(before, Heap(2, rows), turning=turning))
                self.assertLessEqual(yard.heap("oak").many, 2)
                self.assertEqual(yard.orders(), ["oak"])

    def test_fill_by_all_of_the_heap(self):
        yard = Yard(2, turning=True)
        yard.do_all([BRING, ("order", "door", [(SHEET[::-1], 3)]), ("fill", "door", "oak")])
        self.assertEqual((yard.heap("oak"), yard.names(), yard.orders()), (Heap(2), ["oak"], []))
        yard.undo()
        self.assertEqual(yard.names(), [])

    def test_errors_of_fill(self):
        yard = filled()
        for order, name in all_of(["oak", "table", "Door", ""], ["oak", "elm"]):
            self.stays(NoOrder, {"name": order}, yard, ("fill", order, name))
        for name in ["elm", "door", "Oak"]:
            self.stays(NoName, {"name": name}, yard, ("fill", "door", name))
        yard.do_all([("order", "great", [(((13, 0), (1, 0)), 1)]), ("order", "same", [(UNITS[0], 12)])])
        yard.do(("order", "turned", [(((0, 12), (1, 0)), 1), (((1, 0), (1, 0)), 1)]))
        self.stays(NotEnough, {}, yard, ("fill", "great", "oak"))
        self.stays(NotEnough, {}, yard, ("fill", "turned", "oak"))
        self.stays(NoOrder, {"name": "same"}, yard, ("fill", "same", "oak"), ("fill", "same", "oak"))
        yard.do(("fill", "same", "oak"))
        self.assertEqual(yard.heap("oak"), Heap(2))

    def test_equal_areas_with_and_without_turning(self):
        for turning in [False, True]:
            yard = Yard(2, turning=turning)
            yard.do_all([("bring", "oak", UNITS[1], 1), ("order", "door", [(UNITS[2], 1)])])
            if turning:
                yard.do(("fill", "door", "oak"))
                self.assertEqual(yard.heap("oak"), Heap(2))
            else:
                self.stays(NotEnough, {}, yard, ("fill", "door", "oak"))

    def test_drop(self):
        yard = filled()
        for name in ["oak", "table", "Door", ""]:
            self.stays(NoOrder, {"name": name}, yard, ("drop", name))
        yard.do(("drop", "door"))
        self.assertEqual((yard.orders(), yard.names()), ([], ["ash", "oak"]))
        self.stays(NoOrder, {"name": "door"}, yard, ("drop", "door"))

    def test_heaps_and_orders_are_named_independently(self):
        yard = filled()
        yard.do_all([("order", "oak", []), ("bring", "door", SHEET, 1)])
        self.assertEqual((yard.names(), yard.orders()), (["ash", "door", "oak"], ["door", "oak"]))
        yard.do(("drop", "oak"))
        self.assertEqual(yard.heap("oak").rows(), [(SHEET, 3)])


GOOD = [BRING, ("sell", "oak", SHEET, 1), ("move", "oak", "ash", SHEET, 1), ("step", "oak", SPLIT)]
GOOD += [("order", "chair", []), ("fill", "chair", "oak"), ("order", "table", []), ("drop", "table")]


class NoDeeds(ForYards):
    def no_deeds(self):
        found = [(), ("",), ("weld",), ("weld", "oak", SHEET, 1), ("Bring", "oak", SHEET, 1), ("bring ", "oak", SHEET, 1)]
        for deed in [*GOOD, ORDER]:
            found += [deed[:-1], (*deed, 1), deed[:1], (*deed, "oak", "ash")]
        return [("undo",), ("saw", SHEET, "across", (1, 0), 1), ("oak", *GOOD[0]), *found]

    def test_index_of_the_first_one(self):
        for wrong in self.no_deeds():
            yard = filled()
            self.stays(BadDeed, {"at": 0}, yard, wrong)
            self.assertEqual(self.fails(BadDeed, yard.do, wrong), {"at": 0})
            for place in [1, 4, len(GOOD)]:
                self.stays(BadDeed, {"at": place}, yard, *GOOD[:place], wrong, *GOOD[place:], wrong)

    def test_ahead_of_all_other_errors(self):
        yard = filled()
        others = [("bring", "Oak", SHEET, 1), ("sell", "elm", SHEET, 1), ("drop", "oak"), ("step", "oak", ())]
        others += [("order", "door", []), ("bring", "oak", NO_SHEETS[0], 0), ("fill", "oak", "elm")]
        for other, wrong in all_of(others, [(), ("weld",), ("drop",)]):
            self.stays(BadDeed, {"at": 1}, yard, other, wrong)
            self.stays(BadDeed, {"at": 3}, yard, other, BRING, other, wrong, other, wrong)


class Batches(ForYards):
    def test_all_deeds_or_none(self):
        wrong = [("sell", "oak", SHEET, 99), ("drop", "table"), ("step", "oak", ()), ("order", "door", [])]
        kinds = [NoSheet, NoOrder, BadStep, Taken]
        for (deed, kind), place in all_of(zip(wrong, kinds), range(len(GOOD) + 1)):
            yard = filled()
            before = state_of(yard)
            deeds = [*GOOD[:place], deed, *GOOD[place:]]
            self.fails(kind, yard.do_all, deeds)
            self.assertEqual(state_of(yard), before)
            yard.do_all(GOOD)
            self.assertEqual(yard.history, (2, 0))

    def test_the_first_wrong_deed_decides(self):
        yard = filled()
        wrong = [("drop", "a"), ("sell", "b", SHEET, 1), ("fill", "c", "d"), ("bring", "E", SHEET, 1)]
        for order in permutations(wrong):
            with self.assertRaises((ValueError, LookupError)) as caught:
                yard.do_all(order)
            self.assertEqual(caught.exception.name, order[0][1])

    def test_deeds_see_those_ahead_of_them(self):
        yard = Yard(2)
        yard.do_all([BRING, ("move", "oak", "ash", SHEET, 3), ("step", "ash", SPLIT), ("bring", "oak", OTHER, 1)])
        self.assertEqual(yard.heap("ash").rows(), [(((2, 0), (1, 0)), 2), (SHEET, 2)])
        self.stays(NoName, {"name": "elm"}, yard, ("sell", "elm", SHEET, 1), ("bring", "elm", SHEET, 1))

    def test_lists_stay(self):
        deeds = [BRING, ("order", "door", [(UNITS[0], 1)])]
        Yard(2).do_all(deeds)
        self.assertEqual(deeds, [BRING, ("order", "door", [(UNITS[0], 1)])])

    def test_200_deeds(self):
        yard = Yard(2)
        yard.do_all([BRING] * 200)
        self.assertEqual((yard.heap("oak").rows(), yard.history), ([(SHEET, 600)], (1, 0)))


class UndoAndRedo(ForYards):
    def test_an_empty_batch(self):
        yard = Yard(2)
        yard.do_all([])
        yard.do_all(())
        self.assertEqual(yard.history, (2, 0))
        yard.undo()
        self.assertEqual(yard.history, (1, 1))
        yard.redo()
        self.assertEqual((yard.history, yard.names()), ((2, 0), []))

    def test_nothing_left(self):
        yard = Yard(2)
        self.assertEqual(self.fails(NothingLeft, yard.undo), {})
        self.assertEqual(self.fails(NothingLeft, yard.redo), {})
        yard.do(BRING)
        self.assertEqual(self.fails(NothingLeft, yard.redo), {})
        yard.undo()
        self.assertEqual(self.fails(NothingLeft, yard.undo), {})
        yard.redo()
        self.assertEqual(self.fails(NothingLeft, yard.redo), {})
        self.assertEqual((yard.heap("oak").rows(), yard.history), ([(SHEET, 3)], (1, 0)))

    def test_there_and_back(self):
        yard = filled()
        states = [state_of(Yard(2))[:2], state_of(yard)[:2]]
        for deed in GOOD:
            yard.do(deed)
            states.append(state_of(yard)[:2])
        for _ in range(2):
            for at in range(len(states) - 2, -1, -1):
                yard.undo()
                self.assertEqual(state_of(yard)[:2], states[at])
                self.assertEqual(yard.history, (at, len(states) - 1 - at))
            for at in range(1, len(states)):
                yard.redo()
                self.assertEqual(state_of(yard)[:2], states[at])

    def test_a_new_batch_ends_redo(self):
        for batch in [[BRING], []]:
            yard = filled()
            yard.do(BRING)
            yard.undo()
            self.assertEqual(yard.history, (1, 1))
            yard.do_all(batch)
            self.assertEqual((yard.history, self.fails(NothingLeft, yard.redo)), ((2, 0), {}))

    def test_a_wrong_batch_does_not_end_redo(self):
        yard = filled()
        yard.undo()
        for wrong in [("weld",), ("drop", "door")]:
            self.assertRaises((ValueError, LookupError), yard.do, wrong)
            self.assertEqual(yard.history, (0, 1))
        yard.redo()
        self.assertEqual(yard, filled())

    def test_undo_of_orders(self):
        yard = filled()
        yard.do_all([("fill", "door", "oak"), ("order", "table", [])])
        yard.undo()
        self.assertEqual((yard.orders(), yard.heap("oak").rows()), (["door"], [(SHEET, 3)]))


class Depths(ForYards):
    def yard_with(self, batches, **named):
        yard = Yard(2, **named)
        for at in range(batches):
            yard.do(("bring", "oak", SHEET, at + 1))
        return yard

    def test_the_oldest_batches_are_given_up(self):
        for depth in [0, 1, 2, 5, 99, 100]:
            yard = self.yard_with(105, depth=depth)
            self.assertEqual(yard.history, (depth, 0))
            for undone in range(depth):
                yard.undo()
                self.assertEqual(yard.history, (depth - undone - 1, undone + 1))
            self.assertEqual(self.fails(NothingLeft, yard.undo), {})
            self.assertEqual(yard.heap("oak").count(SHEET), sum(range(1, 106 - depth)))

    def test_assigned_later(self):
        for by_method, depth in all_of([False, True], [0, 1, 3, 9, 10, 11, 100]):
            yard = self.yard_with(10)
            if by_method:
                self.assertIsNone(yard.change_depth(depth))
            else:
                yard.depth = depth
            self.assertEqual((yard.depth, yard.history), (depth, (min(depth, 10), 0)))
            for _ in range(min(depth, 10)):
                yard.undo()
            rest = max(0, 10 - depth)
            count = yard.heap("oak").count(SHEET) if rest else 0
            self.assertEqual(count, sum(range(1, rest + 1)))

    def test_a_greater_depth_brings_nothing_back(self):
        yard = self.yard_with(10)
        yard.depth = 2
        yard.depth = 100
        self.assertEqual(yard.history, (2, 0))
        yard.do(BRING)
        self.assertEqual(yard.history, (3, 0))

    def test_wrong_depths(self):
        yard = self.yard_with(3, depth=7)
        before = state_of(yard)
        for depth in [-1, 101, TWENTY_DIGITS, -TWENTY_DIGITS]:
            self.assertEqual(self.fails(BadCount, setattr, yard, "depth", depth), {"number": depth})
            self.assertEqual(self.fails(BadCount, yard.change_depth, depth), {"number": depth})
            self.assertEqual(state_of(yard), before)

    def test_batches_that_can_be_redone_stay(self):
        yard = self.yard_with(6)
        for _ in range(4):
            yard.undo()
        yard.depth = 1
        self.assertEqual(yard.history, (1, 4))
        yard.depth = 0
        self.assertEqual(yard.history, (0, 4))
        yard.redo()
        self.assertEqual((yard.history, yard.heap("oak").count(SHEET)), ((0, 3), 6))
        yard.depth = 2
        for expected in [(1, 2), (2, 1), (2, 0)]:
            yard.redo()
            self.assertEqual(yard.history, expected)
        self.assertEqual(yard.heap("oak").count(SHEET), 21)

    def test_depth_0(self):
        yard = self.yard_with(3, depth=0)
        self.assertEqual((yard.history, yard.heap("oak").count(SHEET)), ((0, 0), 6))
        self.assertEqual(self.fails(NothingLeft, yard.undo), {})
        self.assertEqual(self.fails(NothingLeft, yard.redo), {})


class Questions(ForYards):
    def test_names_and_orders(self):
        yard = Yard(2)
        for name in ["oak", "ash", "elm", "z", "b"]:
            yard.do_all([("bring", name, SHEET, 1), ("order", name * 2, [])])
        self.assertEqual(yard.names(), ["ash", "b", "elm", "oak", "z"])
        self.assertEqual(yard.orders(), ["ashash", "bb", "elmelm", "oakoak", "zz"])
        yard.names().clear()
        yard.orders().append("x")
        self.assertEqual((len(yard.names()), len(yard.orders())), (5, 5))

    def test_heap_and_order(self):
        yard = filled()
        self.assertEqual([yard.heap("oak"), yard.order("door")], [Heap(2, [(SHEET, 3)]), Heap(2, ORDER[2])])
        for name in ["door", "elm", "", "Oak"]:
            self.assertEqual(self.fails(NoName, yard.heap, name), {"name": name})
        for name in ["oak", "table", "", "Door"]:
            self.assertEqual(self.fails(NoOrder, yard.order, name), {"name": name})

    def test_table(self):
        yard = Yard(3)
        self.assertEqual(yard.table(), Table())
        yard.do_all([("bring", "oak", ((3, 2), (1, 5)), 2), ("bring", "ash", OTHER, 7), ("order", "door", [(SHEET, 9)])])
        self.assertEqual(yard.table().rows(), ((6, 30), (25, 27)))
        self.assertEqual(yard.table(), yard.heap("oak").table() + yard.heap("ash").table())

    def test_fillable(self):
        for turning in [False, True]:
            yard = Yard(2, turning=turning)
            yard.do_all([("bring", "oak", UNITS[1], 2), ("bring", "bare", SHEET, 1), ("sell", "bare", SHEET, 1)])
            yard.do_all([("order", "one", [(UNITS[2], 1)]), ("order", "two", [(UNITS[1], 1)]), ("order", "none", [])])
            before = state_of(yard)
            self.assertIs(yard.fillable("oak"), True)
            self.assertIs(yard.fillable("bare"), True)
            self.assertIs(yard.fillable("bare", "none", "none"), True)
            self.assertIs(yard.fillable("bare", "none", "one"), False)
            self.assertIs(yard.fillable("oak", "one"), True)
            self.assertIs(yard.fillable("oak", "two", "two"), True)
            self.assertIs(yard.fillable("oak", "two", "two", "two"), False)
            self.assertIs(yard.fillable("oak", "one", "two"), turning)
            self.assertIs(yard.fillable("oak", "one", "one", "none"), turning)
            for names in all_of(["one", "two", "none"], repeat=2):
                wished = yard.order(names[0]) + yard.order(names[1])
                self.assertIs(yard.fillable("oak", *names), can_cut(yard.heap("oak"), wished, turning=turning))
            self.assertEqual(state_of(yard), before)

    def test_errors_of_fillable(self):
        yard = filled()
        for orders in [[], ["door"], ["table"]]:
            self.assertEqual(self.fails(NoName, yard.fillable, "elm", *orders), {"name": "elm"})
        for orders in [["table"], ["door", "table"], ["table", "Door"], ["door", "door", "table", "x"]]:
            self.assertEqual(self.fails(NoOrder, yard.fillable, "oak", *orders), {"name": "table"})

    def test_len_and_repr(self):
        yard = Yard(2)
        self.assertEqual((len(yard), repr(yard)), (0, "Yard(0 heaps, 0 orders)"))
        yard.do(BRING)
        self.assertEqual((len(yard), repr(yard)), (1, "Yard(1 heaps, 0 orders)"))
        self.assertEqual((len(filled()), repr(filled())), (2, "Yard(2 heaps, 1 orders)"))


class Equality(ForYards):
    def test_roots_turning_heaps_and_orders(self):
        makers = [Yard, filled]
        for one, other in all_of(all_of(makers, [2, 3], [False, True]), repeat=2):
            first, second = [maker(root, turning=turning) for maker, root, turning in (one, other)]
            self.assertIs(first == second, one == other)
            self.assertIs(first != second, one != other)

    def test_not_the_batches_the_depth_or_tallies(self):
        yard, other = filled(), Yard(2, depth=3)
        for deed in [ORDER, ("bring", "ash", OTHER, 1), BRING]:
            other.do(deed)
        other.attach(Journal())
        self.assertNotEqual(yard.history, other.history)
        self.assertIs(yard == other, True)

    def test_names_and_counts(self):
        for deed in [("bring", "oak", SHEET, 1), ("bring", "elm", SHEET, 1), ("drop", "door"), ("order", "x", [])]:
            other = filled()
            other.do(deed)
            self.assertIs(filled() == other, False)
        other = filled()
        other.do_all([("bring", "elm", SHEET, 1), ("sell", "elm", SHEET, 1)])
        self.assertIs(filled() == other, False)

    def test_equal_to_nothing_else(self):
        for thing in [None, 0, False, "Yard(0 heaps, 0 orders)", [], {}, Yard, Heap(2)]:
            self.assertIs(Yard(2) == thing, False)
            self.assertIs(Yard(2) != thing, True)


class Twins(ForYards):
    def busy(self):
        yard = filled(turning=True, depth=9)
        for deed in GOOD[:4]:
            yard.do(deed)
        yard.undo()
        return yard

    def test_equal_in_all_that_can_be_seen(self):
        yard = self.busy()
        twin = yard.twin()
        self.assertIs(type(twin), Yard)
        self.assertIs(twin == yard, True)
        self.assertEqual(state_of(twin), state_of(yard))
        while twin.history[0]:
            twin.undo()
            yard.undo()
            self.assertEqual(state_of(twin), state_of(yard))
        while twin.history[1]:
            twin.redo()
            yard.redo()
            self.assertEqual(state_of(twin), state_of(yard))

    def test_independent_in_both_directions(self):
        changes = [lambda yard: yard.do(BRING), Yard.undo, Yard.redo, lambda yard: yard.change_depth(0)]
        changes += [lambda yard: yard.do_all([("drop", "door"), ("sell", "oak", SHEET, 1)])]
        for change, other_change in all_of(changes, repeat=2):
            for first in [True, False]:
                yard = self.busy()
                twin = yard.twin()
                changed, still = (yard, twin) if first else (twin, yard)
                before = state_of(still)
                change(changed)
                self.assertEqual(state_of(still), before)
                after_change = state_of(changed)
                other_change(still)
                self.assertEqual(state_of(changed), after_change)

    def test_undo_on_both(self):
        yard = self.busy()
        twin = yard.twin()
        yard.undo()
        yard.do(BRING)
        twin.redo()
        self.assertEqual(twin.history, (5, 0))
        self.assertEqual(yard.history, (4, 0))

    def test_without_tallies(self):
        yard, tally = filled(), Journal()
        yard.attach(tally)
        twin = yard.twin()
        twin.do(("step", "oak", SPLIT))
        self.assertEqual(tally.told(), [])
        other = Journal()
        twin.attach(other)
        yard.do(("step", "oak", SPLIT))
        self.assertEqual((len(tally.told()), len(other.told())), (1, 0))

    def test_twins_of_twins(self):
        yard = self.busy()
        self.assertEqual(state_of(yard.twin().twin()), state_of(yard))


SHEETS = [SHEET, ((2, 0), (1, 0)), *UNITS, OTHER, ((3, -2), (1, 1)), ((2, 2), (4, 0))]
SOME_NAMES = ["oak", "ash", "elm", "door", *TWELVE]


def random_deed(source, model):
    """A deed that fits, or nearly fits, a model of a yard."""
    known = sorted(model.heaps) or ["oak"]
    name = source.choice(known * 3 + SOME_NAMES + ["Oak"])
    second = source.choice(known + SOME_NAMES + ["", "elm2"])
    heap = model.heaps.get(name, Counter())
    sheet = source.choice((sorted(+heap) or SHEETS) * 3 + SHEETS + NO_SHEETS)
    copies = source.choice([1, 1, 2, 3, 5, 0, -1, TWENTY_DIGITS])
    word = source.choice(["bring"] * 4 + ["sell", "move", "move", "step", "step", "order", "fill", "fill", "drop"])
    if word in ("bring", "sell"):
        new = source.choice([name, *SOME_NAMES])
        return (word, new, source.choice(SHEETS), copies) if word == "bring" else (word, name, sheet, copies)
    if word == "move":
        return word, name, second, sheet, copies
    if word == "step":
        step = random_step(source, +heap, model.root, True) if +heap else SPLIT
        return word, name, source.choice([step] * 5 + [SPLIT, step[:-1], step[:-1] + (step[-1] + 1,)])
    order = source.choice((sorted(model.orders) or ["x"]) * 2 + SOME_NAMES + ["Door"])
    if word == "order":
        rows = [(source.choice(SHEETS), source.randint(1, 3)) for _ in range(source.randint(0, 3))]
        wrong = [(source.choice(SHEETS + NO_SHEETS), source.choice([1, 0]))] if source.random() < 0.2 else []
        return word, order, rows + wrong
    return (word, order, name) if word == "fill" else (word, order)


class RandomDays(ForYards):
    def act(self, source, yard, model):
        """Do the same at the yard and at the model; compare the errors and all that can be seen."""
        choice = source.random()
        if choice < 0.12:
            self.same(yard.undo, model.undo)
        elif choice < 0.22:
            self.same(yard.redo, model.redo)
        elif choice < 0.25:
            depth = source.choice([0, 1, 2, 5, 100, 101, -1])
            self.same(lambda: yard.change_depth(depth), lambda: model.change_depth(depth))
        else:
            deeds = [random_deed(source, model) for _ in range(source.choice([0, 1, 1, 1, 2, 3]))]
            if source.random() < 0.05:
                deeds.insert(source.randint(0, len(deeds)), source.choice([(), ("weld",), ("drop",), BRING[:3]]))
            self.same(lambda: yard.do_all(deeds), lambda: model.do_all(deeds))
        heaps = {name: rows_of(heap) for name, heap in model.heaps.items()}
        history = len(model.past), len(model.future)
        expected = heaps, model.orders, history, model.depth, model.turning, model.root
        self.assertEqual(state_of(yard), expected)

    def same(self, call, model_call):
        told = found = None
        try:
            model_call()
        except Wrong as wrong:
            told = wrong.told
        try:
            call()
        except (ValueError, LookupError) as error:
            attributes = {name: item for name, item in vars(error).items() if name != "word"}
            found = error.word, attributes
        self.seen[told and told[0]] += 1
        self.assertEqual(found, told)

    def test_days(self):
        self.seen = Counter()
        for seed, turning in all_of(range(12), [False, True]):
            source = Random(f"day {seed} {turning}")
            root, depth = source.choice([2, 3, 61]), source.choice([100, 3, 1])
            yard, model, tally = Yard(root, turning=turning, depth=depth), YardModel(root, turning, depth), Journal()
            yard.attach(tally)
            for _ in range(300):
                self.act(source, yard, model)
            self.assertEqual(tally.told(), model.told)
        words = "BadDeed BadName BadSheet BadCount NoName NoSheet BadStep BadRow Taken NoOrder NotEnough NothingLeft"
        for word in [None, "Full", *words.split()]:
            self.assertGreater(self.seen[word], 3, word)


if __name__ == "__main__":
    unittest.main()
