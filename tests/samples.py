"""Roots, numbers and pairs that several tests use, and oracles that do not use the program."""

from decimal import Context, Decimal
from math import isqrt

ROOTS = [number for number in range(2, 100) if isqrt(number) ** 2 != number]
SOME_ROOTS = [2, 3, 5, 7, 13, 61, 94, 98, 99]

TWENTY_DIGITS = 10**20 - 1
NUMBERS = [0, 1, -1, 2, -3, 7, -12, 99, -1000, 10**19, -(10**19) - 7, TWENTY_DIGITS, -TWENTY_DIGITS]
NUMBERS += [10**45 + 1, -(10**60)]
WIDE_PAIRS = [(a, b) for a in NUMBERS for b in NUMBERS]
SMALL_PAIRS = [(a, b) for a in range(-9, 10) for b in range(-6, 7)]

PRECISE = Context(prec=300)
SQUARE_ROOTS = {root: PRECISE.sqrt(Decimal(root)) for root in ROOTS}


def value(pair, root):
    """The value of a pair with so many digits that no sample is mistaken for another one."""
    a, b = pair
    return PRECISE.add(Decimal(a), PRECISE.multiply(Decimal(b), SQUARE_ROOTS[root]))


def positive(pair, root):
    """Whether a pair of any size stands for a positive value."""
    a, b = pair
    if a >= 0 and b >= 0:
        return a > 0 or b > 0
    if a <= 0 and b <= 0:
        return False
    return root * b * b > a * a if b > 0 else a * a > root * b * b


def sign_of(number):
    return (number > 0) - (number < 0)


def expected_fractions(root, count):
    """The convergents of the square root, by Euclid's algorithm on a decimal with 1400 digits."""
    above, below = isqrt(root * 10**2800), 10**1400
    p, q, p_before, q_before = 1, 0, 0, 1
    found = []
    for _ in range(count):
        k, rest = divmod(above, below)
        p, q, p_before, q_before = k * p + p_before, k * q + q_before, p, q
        found.append((p, q))
        above, below = below, rest
    return found


def close_pairs(root):
    """Pairs of both signs that stand close to zero."""
    found = []
    for p, q in expected_fractions(root, 60):
        found += [(p, -q), (-p, q)]
    return found


def close_lengths(root):
    return [pair for pair in close_pairs(root) if value(pair, root) > 0]
