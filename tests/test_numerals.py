"""Decimal texts and common divisors of numbers of any size."""

import unittest
from itertools import product as all_of
from math import gcd

from grainyard.numerals import common_divisor, decimal_text, grouped_text
from tests.samples import NUMBERS


class DecimalTexts(unittest.TestCase):
    def test_as_str_writes_them(self):
        edges = [10**power + change for power in (1, 63, 64, 65, 127, 128, 129, 640) for change in (-1, 0, 1)]
        for number in NUMBERS + edges + [7 * 10**192 + 5, 123456789**99]:
            self.assertEqual(decimal_text(number), str(number))
            self.assertEqual(decimal_text(-number), str(-number))

    def test_more_digits_than_str_writes(self):
        self.assertEqual(decimal_text(10**9000), "1" + "0" * 9000)
        self.assertEqual(decimal_text(-(10**9000)), "-1" + "0" * 9000)
        self.assertEqual(decimal_text(10**9000 - 1), "9" * 9000)
        self.assertEqual(decimal_text(10**9000 + 42), "1" + "0" * 8998 + "42")

    def test_groups(self):
        for number in [0, 7, 12, 999, 1000, 99999, 100000, 1234567, 10**64, 10**65 - 1, 10**66]:
            self.assertEqual(grouped_text(number), f"{number:,}")


class CommonDivisors(unittest.TestCase):
    def test_as_gcd_finds_them(self):
        for numbers in all_of([0, 1, -4, 6, 30, -105, 10**20, 7 * 10**40], repeat=3):
            self.assertEqual(common_divisor(numbers), gcd(*numbers))
            self.assertEqual(common_divisor(list(numbers)), gcd(*numbers))

    def test_no_numbers(self):
        self.assertEqual([common_divisor([]), common_divisor((0,)), common_divisor((-7,))], [0, 0, 7])


if __name__ == "__main__":
    unittest.main()
