"""Fractions of a root, the tile lengths that they give, and coordinates by these."""

from grainyard.errors import BadCount, BadLength
from grainyard.lengths import added, floor_of, is_length, scaled

MOST_NUMBER = 400


def endless_fractions(root):
    """Yield the fractions of a root in ascending order of their numbers, without end."""
    whole = floor_of((0, 1), root)
    m, t, k = 0, 1, whole
    last, before = (1, 0), (0, 1)
    while True:
        last, before = added(scaled(last, k), before), last
        yield last
        m = t * k - m
        t = (root - m * m) // t
        k = (whole + m) // t


def fractions(root, count):
    """Yield the first fractions of a root, as many as count says."""
    if count < 0:
        raise BadCount(count)
    # The range stands first, so that no fraction behind the last one is computed.
    for number, fraction in zip(range(count), endless_fractions(root)):
        yield fraction


def check_number(number):
    """Raise BadCount for a number that is out of the range for tile lengths."""
    if number < 0 or number > MOST_NUMBER:
        raise BadCount(number)


def tile_of(number, fraction):
    """The tile length that the fraction with a number gives."""
    p, q = fraction
    return (-p, q) if number % 2 == 0 else (p, -q)


def tiles_at(root, number):
    """The tile lengths of any number that is not negative."""
    found = list(fractions(root, number + 2))
    return tile_of(number, found[number]), tile_of(number + 1, found[number + 1])


def tile_lengths(root, number):
    """The tuple of the two tile lengths of a number."""
    check_number(number)
    return tiles_at(root, number)


def coordinates_by(pair, tiles):
    """The coordinates of a pair by the two tile lengths of a number."""
    a, b = pair
    # A tile length differs from its fraction in the signs alone.
    (p, q), (p1, q1) = tiles
    return a * abs(q1) + b * abs(p1), a * abs(q) + b * abs(p)


def coordinates(pair, root, number):
    """The coordinates of a pair by the tile lengths of a number."""
    return coordinates_by(pair, tile_lengths(root, number))


def number_of_length(length, root):
    """The least number for which both coordinates of a length are at least 0."""
    a, b = length
    # The first coordinate of a number is the second one of the next number: one run over the fractions has both.
    second = -1
    for at, (p, q) in enumerate(endless_fractions(root)):
        first = a * q + b * p
        if first >= 0 and second >= 0:
            return at - 1
        second = first


def first_number(pairs, root):
    """The least number for which all coordinates of all pairs are at least 0, 0 for no pairs."""
    for at, pair in enumerate(pairs):
        if not is_length(pair, root):
            raise BadLength(at)
    # Coordinates that are at least 0 stay so for all greater numbers, so the greatest need decides.
    return max([number_of_length(pair, root) for pair in pairs], default=0)
