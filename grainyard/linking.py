"""Linked heaps: the marks that show a difference, and the steps from one heap to another one."""

from grainyard.errors import BadCount, BadStep, NoSheet, NotLinked
from grainyard.heaps import check_same_root
from grainyard.lengths import scaled
from grainyard.recipes import Recipe
from grainyard.steps import apply_steps, back_of, side_of, with_side
from grainyard.tiles import check_number, coordinates_by, first_number, tiles_at


def sides_of(heap):
    """The list of the sides of all different sheets of a heap."""
    return [side for sheet, count in heap.rows() for side in sheet]


def pieces_of(row, side, tiles):
    """The list of (tile length, pieces) into which this side of the sheet of a row is cut."""
    sheet, copies = row
    numbers = coordinates_by(side_of(sheet, side), tiles)
    return [(tile, pieces) for tile, pieces in zip(tiles, numbers) if pieces > 0]


def cutting_steps(row, side, tiles):
    """The steps that cut this side of the sheets of a row into tile lengths."""
    sheet, copies = row
    pieces = pieces_of(row, side, tiles)
    found = []
    if len(pieces) == 2:
        first, times = pieces[0]
        found.append(("saw", sheet, side, scaled(first, times), copies))
    for tile, many in pieces:
        if many > 1:
            found.append(("split", with_side(sheet, side, scaled(tile, many)), side, many, copies))
    return found


def cut_rows(row, side, tiles):
    """The rows that the cutting steps make of a row."""
    sheet, copies = row
    return [(with_side(sheet, side, tile), many * copies) for tile, many in pieces_of(row, side, tiles)]


def tile_steps(row, tiles, turning):
    """The steps that cut the sheets of a row into sheets whose sides are tile lengths."""
    e, f = tiles
    found = cutting_steps(row, "across", tiles)
    for ribbon in cut_rows(row, "across", tiles):
        found.extend(cutting_steps(ribbon, "along", tiles))
        for sheet, copies in cut_rows(ribbon, "along", tiles):
            # With turning, both heaps must end with the same three kinds of tiles.
            if turning and sheet == (f, e):
                found.append(("turn", sheet, copies))
    return found


def check_coordinates(heap, tiles, number):
    """Raise BadCount if a coordinate of a side of a heap is negative."""
    for side in sides_of(heap):
        if min(coordinates_by(side, tiles)) < 0:
            raise BadCount(number)


def strips(heap, number, *, turning=False):
    """The list of steps that change a heap into its strips for a number."""
    check_number(number)
    tiles = tiles_at(heap.root, number)
    check_coordinates(heap, tiles, number)
    found = []
    for row in heap.rows():
        found.extend(tile_steps(row, tiles, turning))
    tiled = apply_steps(heap, found, turning=turning)
    return found + [("stack", sheet, "along", count, 1) for sheet, count in tiled.rows() if count > 1]


def difference(one, other, *, turning=False):
    """The index of the first mark in which two heaps differ, None if they are linked."""
    check_same_root(one, other)
    marks = one.table().marks(turning=turning)
    other_marks = other.table().marks(turning=turning)
    for at, (mark, other_mark) in enumerate(zip(marks, other_marks)):
        if mark != other_mark:
            return at
    return None


def linked(one, other, *, turning=False):
    """Whether one heap can be changed into the other one by steps."""
    return difference(one, other, turning=turning) is None


def steps_between(one, other, *, turning=False):
    """Yield steps that change one heap into the other one."""
    at = difference(one, other, turning=turning)
    if at is not None:
        raise NotLinked(at)
    # Coordinates by the same tile lengths are the marks in other words: linked heaps have the same tiles.
    tiles = tiles_at(one.root, first_number(sides_of(one) + sides_of(other), one.root))
    for row in one.rows():
        yield from tile_steps(row, tiles, turning)
    for row in other.rows()[::-1]:
        for step in tile_steps(row, tiles, turning)[::-1]:
            yield back_of(step)


def recipe_between(one, other, *, turning=False):
    """The recipe of the steps that change one heap into the other one."""
    found = list(steps_between(one, other, turning=turning))
    return Recipe(found, turning=turning)


def leads(one, other, steps, *, turning=False):
    """Whether tuples are steps that can be applied one after the other and change one heap into the other one."""
    try:
        last = apply_steps(one, steps, turning=turning)
    except (BadStep, NoSheet):
        return False
    return last == other
