"""Lengths: point [3] of the document."""

import unittest
from itertools import product as all_of
from math import floor

from grainyard import lengths
from grainyard.errors import BadRoot
from grainyard.lengths import added, check_root, compare, floor_of, is_length, product, scaled, sign
from tests.samples import (
    NUMBERS,
    ROOTS,
    SMALL_PAIRS,
    SOME_ROOTS,
    TWENTY_DIGITS,
    WIDE_PAIRS,
    close_pairs,
    expected_fractions,
    sign_of,
    value,
)

FEW_PAIRS = [(0, 0), (1, 0), (0, 1), (-1, 0), (0, -1), (3, -2), (-7, 5), (-3, -4), (TWENTY_DIGITS, -TWENTY_DIGITS)]


class Interface(unittest.TestCase):
    def test_example(self):
        self.assertEqual([sign((-7, 5), 2), sign((3, -2), 2), sign((7, -5), 2)], [1, 1, -1])
        self.assertEqual(compare((0, 2), (3, 0), 2), -1)
        self.assertEqual(added((1, 2), (3, -5)), (4, -3))
        self.assertEqual(product((3, -2), (3, 2), 2), (1, 0))
        self.assertEqual([floor_of((0, 5), 2), floor_of((0, -5), 2)], [7, -8])

    def test_functions_are_defined_there(self):
        for name in ["check_root", "sign", "compare", "is_length", "added", "scaled", "product", "floor_of"]:
            self.assertEqual(getattr(lengths, name).__module__, "grainyard.lengths")

    def test_arguments_by_name(self):
        self.assertIsNone(check_root(root=2))
        self.assertEqual(sign(root=2, pair=(7, -5)), -1)
        self.assertEqual(compare(root=2, other=(3, 0), one=(0, 2)), -1)
        self.assertIs(is_length(root=2, pair=(3, -2)), True)
        self.assertEqual(scaled(number=-2, pair=(3, -5)), (-6, 10))
        self.assertEqual(product(root=3, other=(0, 2), one=(1, 1)), (6, 2))
        self.assertEqual(floor_of(root=2, pair=(0, 5)), 7)

    def test_arguments_that_are_missing_or_too_many(self):
        for function, most in [(check_root, 1), (sign, 2), (compare, 3), (is_length, 2), (scaled, 2), (product, 3)]:
            self.assertRaises(TypeError, function, *[(1, 0)] * (most - 1))
            self.assertRaises(TypeError, function, *[(1, 0)] * (most + 1))


class Roots(unittest.TestCase):
    def test_roots_from_2_to_99_without_squares(self):
        accepted = []
        for number in range(-200, 1001):
            try:
                self.assertIsNone(check_root(number))
                accepted.append(number)
            except BadRoot as error:
                self.assertEqual(error.number, number)
        self.assertEqual(accepted, ROOTS)
        self.assertEqual(len(accepted), 90)

    def test_great_numbers_are_no_roots(self):
        for number in [10**19, TWENTY_DIGITS, 10**20, 10**5000, 10**5000 + 1]:
            for signed in [number, -number]:
                with self.assertRaises(BadRoot) as caught:
                    check_root(signed)
                self.assertEqual(caught.exception.number, signed)


class Signs(unittest.TestCase):
    def check_sign(self, pair, root):
        expected = sign_of(value(pair, root))
        self.assertEqual(sign(pair, root), expected, (pair, root))
        self.assertIs(type(sign(pair, root)), int)
        self.assertIs(is_length(pair, root), expected == 1)

    def test_small_pairs(self):
        for root in ROOTS:
            for pair in SMALL_PAIRS:
                self.check_sign(pair, root)

    def test_wide_pairs(self):
        for root in SOME_ROOTS:
            for pair in WIDE_PAIRS:
                self.check_sign(pair, root)

    def test_zero(self):
        for root in ROOTS:
            self.assertEqual(sign((0, 0), root), 0)
            self.assertIs(is_length((0, 0), root), False)
            self.assertEqual(compare((0, 0), (0, 0), root), 0)

    def test_pairs_close_to_zero(self):
        for root in ROOTS:
            for number, (p, q) in enumerate(expected_fractions(root, 200)):
                side = -1 if number % 2 == 0 else 1
                self.assertEqual(sign((p, -q), root), side)
                self.assertEqual(sign((-p, q), root), -side)
                self.assertIs(is_length((p, -q), root), side == 1)
                self.assertIs(is_length((-p, q), root), side == -1)

    def test_compare_is_the_sign_of_the_difference(self):
        for root in SOME_ROOTS:
            pairs = FEW_PAIRS + close_pairs(root)[-12:] + WIDE_PAIRS[::9]
            values = {pair: value(pair, root) for pair in pairs}
            for one, other in all_of(pairs, pairs):
                expected = sign_of(values[one] - values[other])
                self.assertEqual(compare(one, other, root), expected, (one, other, root))
                self.assertEqual(compare(one, other, root) == 0, one == other)

    def test_compare_of_neighbours(self):
        for root in ROOTS:
            for p, q in expected_fractions(root, 60):
                side = compare((p, 0), (0, q), root)
                self.assertEqual(side, sign((p, -q), root))
                self.assertEqual(compare((0, q), (p, 0), root), -side)


class Arithmetic(unittest.TestCase):
    def test_added(self):
        self.assertEqual(added(), (0, 0))
        self.assertEqual(added((4, -7)), (4, -7))
        self.assertEqual(added((1, 10), (2, 20), (3, 30), (-4, -40)), (2, 20))
        for one, other in all_of(WIDE_PAIRS[::7], WIDE_PAIRS[::11]):
            self.assertEqual(added(one, other), (one[0] + other[0], one[1] + other[1]))

    def test_added_of_many(self):
        pairs = [(n * n, -n) for n in range(200)]
        self.assertEqual(added(*pairs), (sum(n * n for n in range(200)), -sum(range(200))))

    def test_scaled(self):
        for pair in SMALL_PAIRS:
            self.assertEqual(scaled(pair, 0), (0, 0))
            self.assertEqual(scaled(pair, 1), pair)
        for pair, number in all_of(WIDE_PAIRS, NUMBERS):
            self.assertEqual(scaled(pair, number), (pair[0] * number, pair[1] * number))

    def test_product_by_the_formula(self):
        for root in SOME_ROOTS:
            for one, other in all_of(WIDE_PAIRS[::5], WIDE_PAIRS[::8]):
                (a, b), (c, e) = one, other
                self.assertEqual(product(one, other, root), (a * c + root * b * e, a * e + b * c))

    def test_results_are_tuples_of_integers(self):
        for result in [added(), added((1, 2)), scaled((1, 2), 3), product((1, 2), (3, 4), 2)]:
            self.assertIs(type(result), tuple)
            self.assertEqual([type(item) for item in result], [int, int])

    def test_arguments_stay_as_they_are(self):
        pairs = [(1, 2), (3, -5), (0, 0)]
        added(*pairs)
        one, other = pairs[0], pairs[1]
        scaled(one, 7)
        product(one, other, 2)
        compare(one, other, 2)
        self.assertEqual(pairs, [(1, 2), (3, -5), (0, 0)])


class Floors(unittest.TestCase):
    def check_floor(self, pair, root):
        whole = floor_of(pair, root)
        self.assertIs(type(whole), int)
        a, b = pair
        self.assertGreaterEqual(sign((a - whole, b), root), 0, (pair, root))
        self.assertLess(sign((a - whole - 1, b), root), 0, (pair, root))
        return whole

    def test_small_pairs(self):
        for root in ROOTS:
            for pair in SMALL_PAIRS:
                self.assertEqual(self.check_floor(pair, root), floor(value(pair, root)))

    def test_wide_pairs(self):
        for root in SOME_ROOTS:
            for pair in WIDE_PAIRS:
                self.assertEqual(self.check_floor(pair, root), floor(value(pair, root)))

    def test_integers(self):
        for root in SOME_ROOTS:
            for number in NUMBERS:
                self.assertEqual(floor_of((number, 0), root), number)

    def test_pairs_close_to_an_integer(self):
        for root in ROOTS:
            for pair in close_pairs(root):
                for whole in [0, 1, -1, 12, -TWENTY_DIGITS]:
                    expected = whole if sign(pair, root) > 0 else whole - 1
                    self.assertEqual(self.check_floor((pair[0] + whole, pair[1]), root), expected)

    def test_returned_pairs_of_any_size(self):
        pair = (3, -2)
        for _ in range(10):
            pair = product(pair, pair, 2)
        self.assertGreater(len(str(pair[0])), 700)
        self.assertEqual(self.check_floor(pair, 2), 0)
        self.assertEqual(self.check_floor(scaled(pair, -1), 2), -1)


class FittingTogether(unittest.TestCase):
    def pairs(self, root):
        return FEW_PAIRS + close_pairs(root)[20:60:7] + close_pairs(root)[-2:]

    def test_sign_of_a_product(self):
        for root in SOME_ROOTS:
            for one, other in all_of(self.pairs(root), repeat=2):
                self.assertEqual(sign(product(one, other, root), root), sign(one, root) * sign(other, root))

    def test_sign_of_a_sum(self):
        for root in SOME_ROOTS:
            for one, other in all_of(self.pairs(root), repeat=2):
                signs = {sign(one, root), sign(other, root)}
                total = sign(added(one, other), root)
                if signs != {-1, 1}:
                    self.assertEqual(total, max(signs, key=abs))
                self.assertEqual(total, compare(one, scaled(other, -1), root))

    def test_order_of_three_pairs(self):
        for root in SOME_ROOTS:
            for one, two, three in all_of(self.pairs(root), repeat=3):
                if compare(one, two, root) <= 0 and compare(two, three, root) <= 0:
                    steps = {compare(one, two, root), compare(two, three, root)}
                    self.assertEqual(compare(one, three, root), min(steps))

    def test_product_of_a_sum(self):
        for root in SOME_ROOTS:
            for one, two, three in all_of(self.pairs(root), repeat=3):
                whole = product(one, added(two, three), root)
                self.assertEqual(whole, added(product(one, two, root), product(one, three, root)))

    def test_product_in_any_order(self):
        for root in SOME_ROOTS:
            for one, two, three in all_of(self.pairs(root), repeat=3):
                self.assertEqual(product(one, two, root), product(two, one, root))
                left = product(product(one, two, root), three, root)
                self.assertEqual(left, product(one, product(two, three, root), root))

    def test_product_with_a_number(self):
        for root in SOME_ROOTS:
            for pair, number in all_of(self.pairs(root), NUMBERS):
                self.assertEqual(product(pair, (number, 0), root), scaled(pair, number))


if __name__ == "__main__":
    unittest.main()
