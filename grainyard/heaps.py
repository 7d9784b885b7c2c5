"""Sheets, tuples of two lengths, and heaps of them."""

from grainyard.errors import BadCount, BadRow, BadSheet, NoSheet, OtherRoot
from grainyard.lengths import check_root, is_length
from grainyard.numerals import decimal_text
from grainyard.tables import Table, outer


def is_sheet(sheet, root):
    """Whether both pairs of a tuple are lengths."""
    across, along = sheet
    return is_length(across, root) and is_length(along, root)


def check_sheet(sheet, root):
    """Raise BadSheet if a tuple of two pairs is not a sheet."""
    if not is_sheet(sheet, root):
        raise BadSheet()


def turned(sheet):
    """A tuple of two pairs with its pairs exchanged."""
    across, along = sheet
    return along, across


def check_rows(rows, root):
    """Raise BadRow with the index of the first row that has no sheet or no count."""
    for at, (sheet, count) in enumerate(rows):
        if count < 1 or not is_sheet(sheet, root):
            raise BadRow(at)


def merged(rows):
    """A dict from the sheets of rows, in ascending order, to the sums of their counts."""
    counts = {}
    for sheet, count in rows:
        counts[sheet] = counts.get(sheet, 0) + count
    return {sheet: counts[sheet] for sheet in sorted(counts)}


def check_same_root(one, other):
    """Raise OtherRoot if the roots of two heaps differ."""
    if one.root != other.root:
        raise OtherRoot()


class Heap:
    """A heap of sheets for one root, from a list of rows; it does not change."""

    SIDES = ("across", "along")

    def __init__(self, root, rows=()):
        check_root(root)
        check_rows(rows, root)
        self.held_root = root
        self.copies = merged(rows)

    @classmethod
    def of(cls, root, *sheets):
        """The heap with each of the sheets once, as often as it is passed."""
        return cls(root, [(sheet, 1) for sheet in sheets])

    @property
    def root(self):
        """The root of the lengths."""
        return self.held_root

    @property
    def many(self):
        """The number of sheets: the sum of the counts."""
        return sum(list(self.copies.values()))

    @property
    def area(self):
        """The area of all sheets, a pair."""
        return self.table().area_for(self.held_root)

    def rows(self):
        """The list of the rows with different sheets in ascending order."""
        return list(self.copies.items())

    def count(self, sheet):
        """The count of a tuple of two pairs, 0 if it is not in the heap."""
        return self.copies.get(sheet, 0)

    def table(self):
        """The sum of the tables of the sheets."""
        total = Table()
        for (across, along), count in self.rows():
            total = total + outer(across, along) * count
        return total

    def __add__(self, other):
        check_same_root(self, other)
        return Heap(self.held_root, self.rows() + other.rows())

    def __sub__(self, other):
        check_same_root(self, other)
        for sheet, count in other.rows():
            if self.count(sheet) < count:
                raise NoSheet(sheet)
        left = [(sheet, count - other.count(sheet)) for sheet, count in self.rows()]
        return Heap(self.held_root, [(sheet, count) for sheet, count in left if count > 0])

    def __mul__(self, other):
        if other < 0:
            raise BadCount(other)
        if other == 0:
            return Heap(self.held_root)
        return Heap(self.held_root, [(sheet, count * other) for sheet, count in self.rows()])

    def __contains__(self, x):
        return x in self.copies

    def __eq__(self, other):
        return isinstance(other, Heap) and self.held_root == other.held_root and self.copies == other.copies

    def __bool__(self):
        return bool(self.copies)

    def __len__(self):
        return len(self.copies)

    def __repr__(self):
        return f"Heap({decimal_text(self.many)} sheets)"
