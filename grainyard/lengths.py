"""Lengths: pairs (a, b) that stand for a + b * r, where r is the square root of a root."""

from grainyard.errors import BadRoot
from grainyard.numerals import common_divisor


def whole_root(number):
    """The greatest integer whose square is at most a number that is not negative."""
    # Newton's steps from above never fall below the result, so the first guess that is not too great is it.
    guess = 1 << ((number.bit_length() + 1) // 2)
    while guess * guess > number:
        guess = (guess + number // guess) // 2
    return guess


def is_root(number):
    """Whether a number is a root: from 2 to 99 and not a square."""
    if number < 2 or number > 99:
        return False
    whole = whole_root(number)
    return whole * whole != number


def check_root(root):
    """Raise BadRoot if a number is not a root."""
    if not is_root(root):
        raise BadRoot(root)


def sign(pair, root):
    """The sign of the value of a pair: -1, 0 or 1."""
    a, b = pair
    # Squares that keep the sign of their number have the order of the numbers, so r is not needed.
    worth = a * abs(a) + root * b * abs(b)
    if worth > 0:
        return 1
    if worth < 0:
        return -1
    return 0


def compare(one, other, root):
    """The sign of one pair minus another one."""
    return sign(added(one, scaled(other, -1)), root)


def is_length(pair, root):
    """Whether a pair stands for a positive value."""
    return sign(pair, root) > 0


def added(*pairs):
    """The sum of pairs, (0, 0) for none."""
    return sum([a for a, b in pairs]), sum([b for a, b in pairs])


def scaled(pair, number):
    """A pair times a number."""
    a, b = pair
    return a * number, b * number


def product(one, other, root):
    """The pair that stands for the product of the values of two pairs."""
    a, b = one
    c, e = other
    return a * c + root * b * e, a * e + b * c


def floor_of(pair, root):
    """The greatest integer that is at most the value of a pair."""
    a, b = pair
    whole = whole_root(root * b * b)
    if b < 0:
        # b * r is never an integer here, so cutting off its digits would round it up.
        return a - whole - 1
    return a + whole


def upright(pair, root):
    """The least length of which a pair, or its negative, is a whole multiple; the pair is not (0, 0)."""
    a, b = pair
    divisor = common_divisor(pair) * sign(pair, root)
    return a // divisor, b // divisor
