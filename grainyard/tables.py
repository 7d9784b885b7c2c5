"""Tables: the four numbers of a heap that steps without a turn do not change."""

from grainyard.lengths import added, scaled
from grainyard.numerals import decimal_text


class Table:
    """A table of four numbers, from a tuple of two pairs; it does not change."""

    def __init__(self, rows=((0, 0), (0, 0))):
        (t00, t01), (t10, t11) = rows
        self.cells = ((t00, t01), (t10, t11))

    def rows(self):
        """The tuple of the two pairs of entries."""
        return self.cells

    def area_for(self, root):
        """The area, a pair: the sum of the products of the sides of the sheets."""
        (t00, t01), (t10, t11) = self.cells
        return t00 + root * t11, t01 + t10

    def marks(self, *, turning=False):
        """The tuple of the marks, with turning the one that turns do not change."""
        (t00, t01), (t10, t11) = self.cells
        if turning:
            return t00, t01 + t10, t11
        return t00, t01, t10, t11

    def weight(self, pair):
        """The weight of a pair by this table."""
        x, y = pair
        (t00, t01), (t10, t11) = self.cells
        return t00 * x * x + (t01 + t10) * x * y + t11 * y * y

    def determinant(self):
        """The number that is 0 for the table of a single sheet."""
        (t00, t01), (t10, t11) = self.cells
        return t00 * t11 - t01 * t10

    def __add__(self, other):
        upper, lower = self.cells
        other_upper, other_lower = other.cells
        return Table((added(upper, other_upper), added(lower, other_lower)))

    def __sub__(self, other):
        return self + -other

    def __neg__(self):
        return self * -1

    def __mul__(self, other):
        upper, lower = self.cells
        return Table((scaled(upper, other), scaled(lower, other)))

    def __getitem__(self, at):
        i, j = at
        return self.cells[i][j]

    # Without this, the indexes would make a table look iterable.
    def __iter__(self):
        raise TypeError("a table is not iterated")

    def __eq__(self, other):
        return isinstance(other, Table) and self.cells == other.cells

    def __bool__(self):
        (t00, t01), (t10, t11) = self.cells
        return any([t00, t01, t10, t11])

    def __repr__(self):
        texts = [decimal_text(entry) for row in self.cells for entry in row]
        return f"Table((({texts[0]}, {texts[1]}), ({texts[2]}, {texts[3]})))"


def outer(one, other):
    """The table of a sheet with these two pairs as its sides."""
    a, b = one
    return Table((scaled(other, a), scaled(other, b)))
