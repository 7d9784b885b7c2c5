"""How few sheets a heap can be made of, and the sheets with given widths."""

from grainyard.cutting import heap_of_table
from grainyard.errors import BadLength, BadWidths, TooGreat
from grainyard.heaps import Heap, turned
from grainyard.lengths import added, is_length, scaled, upright, whole_root
from grainyard.numerals import common_divisor
from grainyard.tables import Table, outer

MOST_DIVISOR = 1000000


def first_not_zero(one, other):
    """The first one of two pairs, or the second one if the first one is (0, 0)."""
    return other if one == (0, 0) else one


def plain_factors(table):
    """Two pairs whose multiples are the sides of a single sheet with a table, None if there is none."""
    if table.determinant() != 0:
        return None
    (t00, t01), (t10, t11) = table.rows()
    return first_not_zero((t00, t10), (t01, t11)), first_not_zero((t00, t01), (t10, t11))


def turning_factors(table):
    """Two pairs as in plain_factors for a single sheet that has the marks with turning of a table."""
    a, b, c = table.marks(turning=True)
    square = b * b - 4 * a * c
    if square < 0:
        return None
    side = whole_root(square)
    if side * side != square:
        return None
    # The sides are the factors of the polynomial a + b * t + c * t * t.
    if a == 0:
        return (0, 1), (b, c)
    return (2 * a, b + side), (2 * a, b - side)


def single_sides(heap, turning):
    """The least sides of a single sheet: all single sheets have multiples of them. None if there is none."""
    if not heap:
        return None
    table = heap.table()
    found = turning_factors(table) if turning else plain_factors(table)
    if found is None:
        return None
    one, other = found
    return upright(one, heap.root), upright(other, heap.root)


def divisor_of(heap, turning):
    """The greatest common divisor of the marks of a heap."""
    return common_divisor(heap.table().marks(turning=turning))


def fewest_sheets(heap, *, turning=False):
    """The least number of sheets into which a heap can be changed."""
    if not heap:
        return 0
    return 2 if single_sides(heap, turning) is None else 1


def few_sheets(heap, *, turning=False):
    """A heap with the least number of sheets that is linked to a heap."""
    sides = single_sides(heap, turning)
    if sides is None:
        return heap_of_table(heap.table(), heap.root)
    across, along = sides
    return Heap.of(heap.root, (across, scaled(along, divisor_of(heap, turning))))


def divisors(number):
    """The list of the divisors of a positive number."""
    found = []
    small = 1
    while small * small <= number:
        if number % small == 0:
            found.append(small)
            found.append(number // small)
        small += 1
    return found


def single_sheets(heap, *, turning=False):
    """The ascending list of all single sheets into which a heap can be changed."""
    sides = single_sides(heap, turning)
    if sides is None:
        return []
    whole = divisor_of(heap, turning)
    if whole > MOST_DIVISOR:
        raise TooGreat(MOST_DIVISOR)
    across, along = sides
    found = [(scaled(across, part), scaled(along, whole // part)) for part in divisors(whole)]
    if turning:
        found = found + [turned(sheet) for sheet in found]
    return sorted(set(found))


def plain_length(table, width):
    """The only pair that can stand beside a width in a sheet with a table."""
    upper, lower = table.rows()
    a, b = width
    (c, e), divisor = (lower, b) if a == 0 else (upper, a)
    return c // divisor, e // divisor


def turning_length(table, width):
    """The only pair that can stand beside a width in a sheet with the marks with turning of a table."""
    first, middle, last = table.marks(turning=True)
    a, b = width
    if a == 0:
        return middle // b, last // b
    c = first // a
    return c, (middle - b * c) // a


def strip_of(heap, width, *, turning=False):
    """The length v such that a heap can be changed into the sheet (width, v), None if there is none."""
    if not is_length(width, heap.root):
        raise BadLength(0)
    if not heap:
        return None
    table = heap.table()
    length = turning_length(table, width) if turning else plain_length(table, width)
    # The quotients were rounded down, so the pair may be wrong.
    if outer(width, length).marks(turning=turning) != table.marks(turning=turning):
        return None
    return length


def check_widths(one, other, root):
    """Raise BadLength or BadWidths if two pairs are not the widths of two different rolls."""
    for at, pair in enumerate((one, other)):
        if not is_length(pair, root):
            raise BadLength(at)
    if not Table((one, other)).determinant():
        raise BadWidths()


def rolls_of(heap, one, other):
    """The lengths of the sheets with these two widths into which a heap can be changed, None if there are none."""
    check_widths(one, other, heap.root)
    table = heap.table()
    upper, lower = table.rows()
    (a, b), (c, e) = one, other
    divisor = a * e - b * c
    firsts = added(scaled(upper, e), scaled(lower, -c))
    seconds = added(scaled(lower, a), scaled(upper, -b))
    if common_divisor(firsts + seconds) % divisor != 0:
        return None
    rolls = [(x // divisor, y // divisor) for x, y in (firsts, seconds)]
    if any([roll != (0, 0) and not is_length(roll, heap.root) for roll in rolls]):
        return None
    v, w = [None if roll == (0, 0) else roll for roll in rolls]
    return v, w
