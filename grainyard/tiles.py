"""Fractions of a root, the tile lengths that they give, and coordinates by these."""

from grainyard.errors import BadCount, BadLength
from grainyard.lengths import added, floor_of, is_length, scaled

MOST_NUMBER = 400


def endless_fractions(root):
    """Yield the fractions of a root in ascending order of their numbers, without end."""
    whole = floor_of((0, 1), root)
    m, t, k = 0, 1, whole
    last, before = (1, 0), (0, 1)
    while True:
        last, before = added(scaled(last, k), before), last
        yield last
        m = t * k - m
        t = (root - m * m) // t
        k = (whole + m) // t


def fractions(root, count):
    """Yield the first fractions of a root, as many as count says."""
    if count < 0:
        raise BadCount(count)
    # The range stands first, so that no fraction behind the last one is computed.
    for number, fraction in zip(range(count), endless_fractions(root)):
        yield fraction


def neighbours(root, number):
    """The fractions with a number and the number behind it; raise BadCount for a number out of range."""
    if number < 0 or number > MOST_NUMBER:
        raise BadCount(number)
    found = list(fractions(root, number + 2))
    return found[number], found[number + 1]


def tile_lengths(root, number):
    """The tuple of the two tile lengths of a number."""
    (p, q), (p1, q1) = neighbours(root, number)
    if number % 2 == 0:
        return (-p, q), (p1, -q1)
    return (p, -q), (-p1, q1)


def coordinates(pair, root, number):
    """The coordinates of a pair by the tile lengths of a number."""
    a, b = pair
    (p, q), (p1, q1) = neighbours(root, number)
    return a * q1 + b * p1, a * q + b * p


def number_of_length(length, root):
    """The least number for which both coordinates of a length are at least 0."""
    a, b = length
    # The first coordinate of a number is the second one of the next number: one run over the fractions has both.
    second = -1
    for at, (p, q) in enumerate(endless_fractions(root)):
        first = a * q + b * p
        if first >= 0 and second >= 0:
            return at - 1
        second = first


def first_number(pairs, root):
    """The least number for which all coordinates of all pairs are at least 0, 0 for no pairs."""
    for at, pair in enumerate(pairs):
        if not is_length(pair, root):
            raise BadLength(at)
    # Coordinates that are at least 0 stay so for all greater numbers, so the greatest need decides.
    return max([number_of_length(pair, root) for pair in pairs], default=0)
