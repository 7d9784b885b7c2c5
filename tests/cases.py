"""What the tests of several modules have in common."""

import unittest
from functools import cache

from grainyard.heaps import Heap
from grainyard.tables import Table
from tests.models import random_runs, rows_of
from tests.samples import positive

# Sheets whose tables have a single entry, so that a heap of them has any table of counts.
UNITS = [((1, 0), (1, 0)), ((1, 0), (0, 1)), ((0, 1), (1, 0)), ((0, 1), (0, 1))]


class Case(unittest.TestCase):
    def fails(self, kind, call, *arguments, **named):
        """The attributes of the error of this very class that a call raises, without its word."""
        with self.assertRaises(kind) as caught:
            call(*arguments, **named)
        self.assertIs(type(caught.exception), kind)
        return {name: item for name, item in vars(caught.exception).items() if name != "word"}


def unit_heap(root, *counts):
    """The heap whose table has these four counts as its entries."""
    return Heap(root, [(sheet, count) for sheet, count in zip(UNITS, counts) if count])


def heaps_of_runs(roots, turning):
    """Lists of linked heaps: the heap at the start of a run and those behind some of its steps."""
    for root, first, _, counters in random_runs(roots, turning):
        yield [Heap(root, rows_of(counter)) for counter in [first, *counters[::3], counters[-1]]]


def area_by_words(entries, root):
    (t00, t01), (t10, t11) = entries
    return t00 + root * t11, t01 + t10


@cache
def small_tables(root, most):
    """All tables with a positive area whose entries are from -most to most."""
    numbers = range(-most, most + 1)
    found = [((a, b), (c, e)) for a in numbers for b in numbers for c in numbers for e in numbers]
    return [Table(entries) for entries in found if positive(area_by_words(entries, root), root)]


def marks_by_words(entries, turning):
    (t00, t01), (t10, t11) = entries
    return (t00, t01 + t10, t11) if turning else (t00, t01, t10, t11)
