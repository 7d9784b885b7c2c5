"""Squares: reduced forms, and heaps that can be changed into squares alone."""

from grainyard.errors import BadForm, NoSquares
from grainyard.heaps import Heap
from grainyard.lengths import added, scaled, upright
from grainyard.numerals import common_divisor


def reduced(form):
    """The tuple of the reduced form of a form and of two pairs that give it."""
    a, b, c = form
    if a <= 0 or a * c <= b * b:
        raise BadForm()
    one, other = (1, 0), (0, 1)
    while True:
        # Take away the multiple of the first pair that brings b closest to 0, as in Euclid's algorithm.
        many = (2 * b + a) // (2 * a)
        b, c, other = b - many * a, c - many * (2 * b - many * a), added(other, scaled(one, -many))
        if a <= c:
            break
        a, c, one, other = c, a, other, one
    if b < 0:
        return (a, -b, c), one, scaled(other, -1)
    return (a, b, c), one, other


def is_uneven(table, turning):
    """Whether None is a reason: the middle entries of a table differ, with turning their sum is odd."""
    t00, t01, t10, t11 = table.marks()
    if turning:
        return (t01 + t10) % 2 == 1
    return t01 != t10


def negative_pair(table):
    """A pair with a negative weight by a table, None if there is none."""
    a, b, c = table.marks(turning=True)
    # The first two weights are a and c. If these are not negative, a weight can only be negative if b * b is more
    # than 4 * a * c; then the third one is negative if a is positive, the fourth one if c is, and otherwise the last.
    for pair in ((1, 0), (0, 1), (-b, 2 * a), (2 * c, -b), (1, -b)):
        if table.weight(pair) < 0:
            return pair
    return None


def flat_squares(form):
    """The pairs of the sides of squares, with their counts, for three numbers with a * c = b * b."""
    a, b, c = form
    if form == (0, 0, 0):
        return []
    return [((b, c) if a == 0 else (a, b), common_divisor(form))]


def round_squares(form):
    """The pairs of the sides of squares, with their counts, for a form."""
    (a, b, c), (x, y), (z, w) = reduced(form)
    # These two are the rows of the inverse of the pairs; their squares give the entries of the reduced form back.
    one, other = (w, -z), (-y, x)
    return [(one, a - b), (other, c - b), (added(one, other), b)]


def squares_of(heap, *, turning=False):
    """A heap of squares into which a heap can be changed."""
    table = heap.table()
    if is_uneven(table, turning):
        raise NoSquares(None)
    pair = negative_pair(table)
    if pair is not None:
        raise NoSquares(pair)
    a, double, c = table.marks(turning=True)
    b = double // 2
    found = flat_squares((a, b, c)) if a * c == b * b else round_squares((a, b, c))
    sides = [(upright(side, heap.root), count) for side, count in found if count > 0]
    return Heap(heap.root, [((side, side), count) for side, count in sides])


def shows_no_squares(heap, reason, *, turning=False):
    """Whether None or a pair is a reason why a heap cannot be changed into squares."""
    table = heap.table()
    if reason is None:
        return is_uneven(table, turning)
    return table.weight(reason) < 0
