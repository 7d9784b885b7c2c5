"""Tallies: point [16] of the document."""

import unittest
from collections import Counter

from grainyard import tallies
from grainyard.tallies import CutTally, Journal, Tally
from grainyard.yards import Yard
from tests.cases import UNITS, Case
from tests.models import PLACE, random_runs
from tests.samples import SOME_ROOTS, TWENTY_DIGITS

SHEET = ((4, 0), (1, 1))
SAW = ("saw", SHEET, "across", (1, 0), 3)
STEPS = [
    SAW,
    ("saw", SHEET, "along", (0, 1), 1),
    ("split", SHEET, "across", 4, 2),
    ("split", SHEET, "across", 2, 1),
    ("split", ((1, 0), (6, -3)), "along", 3, 5),
    ("glue", SHEET, SHEET, "along", 7),
    ("stack", SHEET, "across", 9, 7),
    ("turn", SHEET, 3),
    ("saw", ((1, 0), (0, TWENTY_DIGITS)), "across", (0, 1), TWENTY_DIGITS),
]
SAWN = [(3, 3), (4, 0), (6, 6), (1, 1), (10, 0), (0, 0), (0, 0), (0, 0), (0, TWENTY_DIGITS**2)]
KINDS = [Tally, Journal, CutTally]


def sawn_by_words(step):
    """The sum of the lengths of the cuts of a step, by the words of the interface."""
    if step[0] not in ("saw", "split"):
        return 0, 0
    a, b = step[1][1 - PLACE[step[2]]]
    cuts = step[-1] * (1 if step[0] == "saw" else step[3] - 1)
    return a * cuts, b * cuts


class Interface(Case):
    def test_example(self):
        tally = CutTally()
        tally.note(("split", ((4, 0), (1, 1)), "across", 4, 2))
        tally.note(("turn", ((1, 0), (1, 1)), 3))
        found = [tally.notes, tally.counts(), tally.sawn, len(tally.told())]
        self.assertEqual(found, [2, {"split": 1, "turn": 1}, (6, 6), 2])

    def test_defined_there(self):
        for kind in KINDS:
            self.assertEqual(kind.__module__, "grainyard.tallies")
            self.assertIn("note", vars(kind))
        self.assertIn("counts", vars(Tally))
        for kind in [Journal, CutTally]:
            self.assertIn("told", vars(kind))
        self.assertEqual(tallies.Journal.__bases__ + CutTally.__bases__, (Tally, Journal))

    def test_arguments_by_name(self):
        for kind in KINDS:
            one, other = kind(), kind()
            one.note(SAW)
            self.assertIsNone(other.note(step=SAW))
            self.assertEqual((one.notes, one.counts()), (other.notes, other.counts()))

    def test_new_tallies(self):
        for kind in KINDS:
            self.assertEqual((kind().notes, kind().counts()), (0, {}))
        self.assertEqual([Journal().told(), CutTally().told()], [[], []])
        self.assertEqual(CutTally().sawn, (0, 0))
        self.assertIs(type(CutTally().sawn), tuple)


class Notes(Case):
    def test_numbers_and_counts(self):
        for kind in KINDS:
            tally = kind()
            for at, step in enumerate(STEPS * 2):
                self.assertEqual(tally.notes, at)
                self.assertIsNone(tally.note(step))
                self.assertEqual(tally.counts(), dict(Counter(told[0] for told in (STEPS * 2)[: at + 1])))
            self.assertEqual(tally.counts(), {"saw": 6, "split": 6, "glue": 2, "stack": 2, "turn": 2})

    def test_steps_in_order(self):
        for kind in [Journal, CutTally]:
            tally = kind()
            for at, step in enumerate(STEPS + STEPS[::-1]):
                tally.note(step)
                self.assertEqual(tally.told(), (STEPS + STEPS[::-1])[: at + 1])

    def test_lengths_of_cuts(self):
        total = (0, 0)
        tally = CutTally()
        for step, sawn in zip(STEPS, SAWN):
            single = CutTally()
            single.note(step)
            self.assertEqual(single.sawn, sawn)
            self.assertEqual(sawn_by_words(step), sawn)
            tally.note(step)
            total = total[0] + sawn[0], total[1] + sawn[1]
            self.assertEqual(tally.sawn, total)

    def test_copies_and_pieces(self):
        for copies in [1, 2, 5, TWENTY_DIGITS]:
            tally = CutTally()
            tally.note(("saw", ((5, 0), (2, 3)), "across", (1, 0), copies))
            self.assertEqual(tally.sawn, (2 * copies, 3 * copies))
            for pieces in [2, 3, 10]:
                tally = CutTally()
                tally.note(("split", ((30, 0), (2, 3)), "across", pieces, copies))
                self.assertEqual(tally.sawn, (2 * (pieces - 1) * copies, 3 * (pieces - 1) * copies))

    def test_steps_of_runs(self):
        for _, _, steps, _ in random_runs(SOME_ROOTS, True):
            tally = CutTally()
            for step in steps:
                tally.note(step)
            lengths = [sawn_by_words(step) for step in steps]
            self.assertEqual(tally.sawn, (sum(a for a, _ in lengths), sum(b for _, b in lengths)))
            self.assertEqual(tally.told(), steps)

    def test_returned_lists_and_dicts_are_new(self):
        for kind in KINDS:
            tally = kind()
            tally.note(SAW)
            tally.counts()["saw"] = 9
            tally.counts().clear()
            self.assertEqual(tally.counts(), {"saw": 1})
        for kind in [Journal, CutTally]:
            tally = kind()
            tally.note(SAW)
            tally.told().append(SAW)
            tally.told().clear()
            self.assertEqual(tally.told(), [SAW])

    def test_tallies_are_independent(self):
        one, other = CutTally(), CutTally()
        one.note(SAW)
        self.assertEqual((other.notes, other.counts(), other.told(), other.sawn), (0, {}, [], (0, 0)))


SPLIT = ("split", ((4, 0), (1, 0)), "across", 2, 1)
GLUE = ("glue", ((2, 0), (1, 0)), ((2, 0), (1, 0)), "along", 1)
CUT = ("saw", ((2, 0), (2, 0)), "along", (0, 1), 1)


class InYards(Case):
    def yard(self, **named):
        yard = Yard(2, **named)
        yard.do_all([("bring", "oak", ((4, 0), (1, 0)), 5), ("bring", "ash", ((4, 0), (1, 0)), 5)])
        return yard

    def test_told_the_steps_of_each_batch_in_order(self):
        yard, tallies_there = self.yard(), [Tally(), Journal(), CutTally()]
        for tally in tallies_there:
            self.assertIsNone(yard.attach(tally))
        yard.do(("step", "oak", SPLIT))
        yard.do_all([("step", "ash", SPLIT), ("bring", "elm", UNITS[0], 1), ("step", "oak", GLUE), ("step", "oak", CUT)])
        yard.do_all([])
        yard.do(("sell", "elm", UNITS[0], 1))
        for tally in tallies_there:
            self.assertEqual((tally.notes, tally.counts()), (4, {"split": 2, "glue": 1, "saw": 1}))
        for tally in tallies_there[1:]:
            self.assertEqual(tally.told(), [SPLIT, SPLIT, GLUE, CUT])
        self.assertEqual(tallies_there[2].sawn, (4, 0))

    def test_batches_with_an_error_tell_nothing(self):
        yard, tally = self.yard(), Journal()
        yard.attach(tally)
        for wrong in [("drop", "door"), ("step", "oak", CUT), ("step", "elm", SPLIT), ("step", "oak", ()), ("weld",)]:
            for deeds in [[wrong], [("step", "oak", SPLIT), wrong], [wrong, ("step", "oak", SPLIT)]]:
                self.assertRaises((ValueError, LookupError), yard.do_all, deeds)
                self.assertEqual((tally.notes, tally.told(), tally.counts()), (0, [], {}))
        yard.do(("step", "oak", SPLIT))
        self.assertEqual(tally.told(), [SPLIT])

    def test_undo_and_redo_tell_nothing(self):
        yard, tally = self.yard(), Journal()
        yard.attach(tally)
        yard.do(("step", "oak", SPLIT))
        yard.undo()
        self.assertEqual(tally.told(), [SPLIT])
        yard.redo()
        self.assertEqual((tally.told(), tally.notes), ([SPLIT], 1))
        self.assertRaises(IndexError, yard.redo)
        self.assertEqual(tally.notes, 1)
        yard.do(("step", "ash", SPLIT))
        self.assertEqual(tally.told(), [SPLIT, SPLIT])

    def test_only_batches_behind_the_attaching(self):
        yard, early, late = self.yard(), Journal(), Journal()
        yard.attach(early)
        yard.do(("step", "oak", SPLIT))
        yard.attach(tally=late)
        yard.do(("step", "oak", GLUE))
        self.assertEqual((early.told(), late.told()), ([SPLIT, GLUE], [GLUE]))

    def test_only_of_its_own_yard(self):
        yard, other, tally = self.yard(), self.yard(), Journal()
        yard.attach(tally)
        twin = yard.twin()
        other.do(("step", "oak", SPLIT))
        twin.do(("step", "oak", SPLIT))
        self.assertEqual(tally.told(), [])
        yard.do(("step", "oak", SPLIT))
        self.assertEqual(tally.told(), [SPLIT])

    def test_turns_and_depth_0(self):
        yard, tally = self.yard(turning=True, depth=0), CutTally()
        yard.attach(tally)
        yard.do(("step", "oak", ("turn", ((4, 0), (1, 0)), 2)))
        self.assertEqual((tally.counts(), tally.sawn), ({"turn": 1}, (0, 0)))

    def test_other_deeds_tell_nothing(self):
        yard, tally = self.yard(), Tally()
        yard.attach(tally)
        yard.do(("order", "door", [(UNITS[0], 1)]))
        yard.do(("fill", "door", "oak"))
        yard.do(("move", "ash", "oak", ((4, 0), (1, 0)), 1))
        self.assertEqual((tally.notes, tally.counts()), (0, {}))


if __name__ == "__main__":
    unittest.main()
