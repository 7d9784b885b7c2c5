"""Decimal texts of numbers of any size."""

import unittest

from grainyard.numerals import decimal_text
from tests.samples import NUMBERS


class DecimalTexts(unittest.TestCase):
    def test_as_str_writes_them(self):
        edges = [10**power + change for power in (1, 63, 64, 65, 127, 128, 129, 640) for change in (-1, 0, 1)]
        for number in NUMBERS + edges + [7 * 10**192 + 5, 123456789**99]:
            self.assertEqual(decimal_text(number), str(number))
            self.assertEqual(decimal_text(-number), str(-number))

    def test_more_digits_than_str_writes(self):
        self.assertEqual(decimal_text(10**9000), "1" + "0" * 9000)
        self.assertEqual(decimal_text(-(10**9000)), "-1" + "0" * 9000)
        self.assertEqual(decimal_text(10**9000 - 1), "9" * 9000)
        self.assertEqual(decimal_text(10**9000 + 42), "1" + "0" * 8998 + "42")


if __name__ == "__main__":
    unittest.main()
