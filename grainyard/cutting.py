"""Heaps that are cut out of other heaps, and the rest that remains."""

from grainyard.errors import NotEnough
from grainyard.heaps import Heap, check_same_root
from grainyard.lengths import added, check_root, is_length, scaled
from grainyard.linking import recipe_between
from grainyard.tables import Table
from grainyard.tiles import endless_fractions, tile_of


def two_sheets(table, root):
    """Two sheets that together have a table with a positive area."""
    upper, lower = table.rows()
    fraction, part = (0, 0), (0, 0)
    # The tile lengths of a number have exactly two pairs beside them that give the table. Their values come close
    # to multiples of the area, so from some number on both are lengths.
    for at, (p, q) in enumerate(endless_fractions(root)):
        before, part = part, added(scaled(upper, q), scaled(lower, p))
        if is_length(before, root) and is_length(part, root):
            return (tile_of(at - 1, fraction), part), (tile_of(at, (p, q)), before)
        fraction = (p, q)


def heap_of_table(table, root):
    """A heap of at most two sheets with a table."""
    check_root(root)
    if not table:
        return Heap(root)
    if not is_length(table.area_for(root), root):
        raise NotEnough()
    one, other = two_sheets(table, root)
    return Heap.of(root, one, other)


def covers(stock, wish, root, turning):
    """Whether heaps with the table `wish` can be cut out of heaps with the table `stock`."""
    if stock.marks(turning=turning) == wish.marks(turning=turning):
        return True
    return is_length((stock - wish).area_for(root), root)


def can_cut(heap, wanted, *, turning=False):
    """Whether a wanted heap can be cut out of a heap."""
    return all_fit(heap, wanted, turning=turning)


def rest_of(heap, wanted, *, turning=False):
    """A rest of at most two sheets after a wanted heap is cut out of a heap."""
    check_same_root(heap, wanted)
    stock = heap.table()
    wish = wanted.table()
    if stock.marks(turning=turning) == wish.marks(turning=turning):
        return Heap(heap.root)
    return heap_of_table(stock - wish, heap.root)


def cut_out(heap, wanted, *, turning=False):
    """The recipe that cuts a wanted heap out of a heap, and the rest."""
    rest = rest_of(heap, wanted, turning=turning)
    return recipe_between(heap, wanted + rest, turning=turning), rest


def all_fit(heap, *wanted, turning=False):
    """Whether all wanted heaps can be cut out of a heap together."""
    wish = Table()
    for each in wanted:
        check_same_root(heap, each)
        wish = wish + each.table()
    return covers(heap.table(), wish, heap.root, turning)
