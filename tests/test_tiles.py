"""Fractions, tile lengths and coordinates: points [4] and [5] of the document."""

import unittest
from itertools import islice

from grainyard import tiles
from grainyard.errors import BadCount, BadLength
from grainyard.lengths import added, compare, is_length, product, scaled, sign
from grainyard.tiles import coordinates, first_number, fractions, tile_lengths
from tests.samples import (
    ROOTS,
    SMALL_PAIRS,
    SOME_ROOTS,
    TWENTY_DIGITS,
    WIDE_PAIRS,
    close_lengths,
    expected_fractions,
)

PLACES = [0, 1, 2, 3, 17, 200, 399, 400]
WRONG_PLACES = [-1, -2, 401, 402, 1000, TWENTY_DIGITS, -TWENTY_DIGITS]


class Interface(unittest.TestCase):
    def test_example(self):
        self.assertEqual(list(fractions(2, 5)), [(1, 1), (3, 2), (7, 5), (17, 12), (41, 29)])
        self.assertEqual(tile_lengths(2, 1), ((3, -2), (-7, 5)))
        self.assertEqual(coordinates((4, -2), 2, 1), (6, 2))
        self.assertEqual(first_number([(1, 0), (-7, 5)], 2), 1)
        self.assertEqual(first_number([(1, 1)], 2), 0)

    def test_functions_are_defined_there(self):
        for name in ["fractions", "tile_lengths", "coordinates", "first_number"]:
            self.assertEqual(getattr(tiles, name).__module__, "grainyard.tiles")

    def test_arguments_by_name(self):
        self.assertEqual(list(fractions(count=2, root=2)), [(1, 1), (3, 2)])
        self.assertEqual(tile_lengths(number=1, root=2), ((3, -2), (-7, 5)))
        self.assertEqual(coordinates(number=1, root=2, pair=(4, -2)), (6, 2))
        self.assertEqual(first_number(root=2, pairs=[(-7, 5)]), 1)


class Fractions(unittest.TestCase):
    def test_all_roots_in_order(self):
        for root in ROOTS:
            self.assertEqual(list(fractions(root, 402)), expected_fractions(root, 402), root)

    def test_pairs_are_tuples_of_integers(self):
        for pair in fractions(61, 20):
            self.assertIs(type(pair), tuple)
            self.assertEqual([type(item) for item in pair], [int, int])

    def test_count(self):
        for root in SOME_ROOTS:
            longest = list(fractions(root, 60))
            for count in range(61):
                self.assertEqual(list(fractions(root, count)), longest[:count])

    def test_nothing_for_the_count_0(self):
        for root in ROOTS:
            self.assertEqual(list(fractions(root, 0)), [])

    def test_negative_count_when_it_is_iterated(self):
        for count in [-1, -2, -400, -TWENTY_DIGITS]:
            waiting = fractions(2, count)
            with self.assertRaises(BadCount) as caught:
                next(iter(waiting))
            self.assertEqual(caught.exception.number, count)

    def test_loop_that_stops_in_the_middle(self):
        for count in [10, 10**6, TWENTY_DIGITS, 10**30]:
            found = []
            for pair in fractions(7, count):
                found.append(pair)
                if len(found) == 6:
                    break
            self.assertEqual(found, [(2, 1), (3, 1), (5, 2), (8, 3), (37, 14), (45, 17)])

    def test_two_loops_at_once(self):
        for one, other in zip(fractions(13, 30), fractions(13, 40)):
            self.assertEqual(one, other)
        self.assertEqual(list(islice(fractions(13, 40), 30)), list(fractions(13, 30)))

    def test_neighbours_by_turns(self):
        for root in ROOTS:
            found = list(fractions(root, 100))
            for number, ((p, q), (p1, q1)) in enumerate(zip(found, found[1:])):
                self.assertEqual(p * q1 - p1 * q, -1 if number % 2 == 0 else 1)

    def test_sides_by_turns(self):
        for root in ROOTS:
            for number, (p, q) in enumerate(fractions(root, 100)):
                self.assertEqual(compare((p, 0), (0, q), root), -1 if number % 2 == 0 else 1)

    def test_each_comes_closer(self):
        for root in ROOTS:
            found = list(fractions(root, 100))
            for (p, q), (p1, q1) in zip(found, found[1:]):
                far = scaled((p, -q), sign((p, -q), root))
                near = scaled((p1, -q1), sign((p1, -q1), root))
                self.assertEqual(compare(near, far, root), -1)
                self.assertEqual(compare(scaled(near, q), scaled(far, q1), root), -1)


class TileLengths(unittest.TestCase):
    def test_from_the_fractions(self):
        for root in ROOTS:
            found = expected_fractions(root, 402)
            for number in PLACES:
                signed = []
                for place in [number, number + 1]:
                    p, q = found[place]
                    signed.append((-p, q) if place % 2 == 0 else (p, -q))
                self.assertEqual(tile_lengths(root, number), tuple(signed))

    def test_all_numbers(self):
        lengths = [tile_lengths(94, number) for number in range(401)]
        for (_, second), (first, _) in zip(lengths, lengths[1:]):
            self.assertEqual(second, first)

    def test_both_are_lengths(self):
        for root in ROOTS:
            for number in PLACES:
                for length in tile_lengths(root, number):
                    self.assertTrue(is_length(length, root))

    def test_kinds(self):
        for number in PLACES:
            result = tile_lengths(5, number)
            self.assertEqual([type(item) for item in (result, *result)], [tuple] * 3)

    def test_out_of_range(self):
        for root in SOME_ROOTS:
            for number in WRONG_PLACES:
                with self.assertRaises(BadCount) as caught:
                    tile_lengths(root, number)
                self.assertEqual(caught.exception.number, number)


class Coordinates(unittest.TestCase):
    def check_pair(self, pair, root, number):
        e, f = tile_lengths(root, number)
        result = coordinates(pair, root, number)
        self.assertIs(type(result), tuple)
        x, y = result
        self.assertEqual(added(scaled(e, x), scaled(f, y)), pair)

    def test_they_give_the_pair(self):
        for root in SOME_ROOTS:
            for number in PLACES:
                for pair in SMALL_PAIRS[::4] + WIDE_PAIRS[::5]:
                    self.check_pair(pair, root, number)

    def test_all_roots(self):
        for root in ROOTS:
            for number in PLACES:
                self.check_pair((12, -5), root, number)

    def test_by_the_formula(self):
        for root in SOME_ROOTS:
            found = expected_fractions(root, 402)
            for number in PLACES:
                (p, q), (p1, q1) = found[number], found[number + 1]
                for a, b in SMALL_PAIRS[::6]:
                    self.assertEqual(coordinates((a, b), root, number), (a * q1 + b * p1, a * q + b * p))

    def test_of_the_tile_lengths(self):
        for root in SOME_ROOTS:
            for number in PLACES:
                e, f = tile_lengths(root, number)
                self.assertEqual(coordinates(e, root, number), (1, 0))
                self.assertEqual(coordinates(f, root, number), (0, 1))
                self.assertEqual(coordinates((0, 0), root, number), (0, 0))

    def test_out_of_range(self):
        for root in SOME_ROOTS:
            for number in WRONG_PLACES:
                for pair in [(1, 0), (0, 0), (-3, 1)]:
                    with self.assertRaises(BadCount) as caught:
                        coordinates(pair, root, number)
                    self.assertEqual(caught.exception.number, number)


def fits(pairs, root, number):
    """Whether all coordinates of all pairs are at least 0."""
    return all(min(coordinates(pair, root, number)) >= 0 for pair in pairs)


class FirstNumber(unittest.TestCase):
    def check_least(self, pairs, root):
        least = first_number(pairs, root)
        self.assertIs(type(least), int)
        self.assertTrue(fits(pairs, root, least), (pairs, root))
        for number in range(least):
            self.assertFalse(fits(pairs, root, number), (pairs, root, number))
        for number in range(least + 1, least + 6):
            self.assertTrue(fits(pairs, root, number), (pairs, root, number))
        return least

    def test_no_pairs(self):
        for root in ROOTS:
            self.assertEqual(first_number([], root), 0)
            self.assertEqual(first_number((), root), 0)

    def test_one_small_length(self):
        for root in SOME_ROOTS:
            for pair in SMALL_PAIRS:
                if is_length(pair, root):
                    self.check_least([pair], root)

    def test_one_wide_length(self):
        for root in SOME_ROOTS:
            for pair in WIDE_PAIRS[::3]:
                if is_length(pair, root):
                    self.check_least([pair], root)

    def test_lengths_close_to_zero(self):
        for root in SOME_ROOTS:
            for number, pair in enumerate(close_lengths(root)):
                self.assertEqual(self.check_least([pair], root), max(number - 1, 0))

    def test_all_roots(self):
        for root in ROOTS:
            self.check_least([(1, 0), (0, 1), tile_lengths(root, 9)[0], (100, -10)], root)

    def test_several_pairs(self):
        for root in SOME_ROOTS:
            near = close_lengths(root)
            for at in range(0, 50, 7):
                mixed = [(3, 0), near[at], (1, 1), near[at // 2]]
                least = self.check_least(mixed, root)
                self.assertEqual(least, max(first_number([pair], root) for pair in mixed))
                self.assertEqual(first_number(mixed[::-1], root), least)

    def test_lists_and_tuples(self):
        pairs = [(-7, 5), (3, -2), (-41, 29), (1, 0)]
        self.assertEqual(first_number(pairs, 2), 3)
        self.assertEqual(first_number(tuple(pairs), 2), 3)
        self.assertEqual(pairs, [(-7, 5), (3, -2), (-41, 29), (1, 0)])

    def test_many_pairs(self):
        near = close_lengths(61)
        self.assertEqual(first_number([near[at % 50] for at in range(200)], 61), 48)

    def test_equal_pairs(self):
        self.assertEqual(first_number([(-7, 5)] * 3, 2), first_number([(-7, 5)], 2))

    def test_numbers_above_400(self):
        for root in [2, 82, 94]:
            for number, (p, q) in enumerate(expected_fractions(root, 521)):
                if number in [400, 401, 402, 519, 520]:
                    length = (-p, q) if number % 2 == 0 else (p, -q)
                    self.assertEqual(first_number([length], root), number - 1)

    def test_returned_lengths_of_any_size(self):
        for root in SOME_ROOTS:
            e, f = tile_lengths(root, 12)
            self.check_least([product(e, f, root), product(e, e, root), scaled(f, 10**40)], root)

    def test_first_pair_that_is_not_a_length(self):
        for root in SOME_ROOTS:
            near = close_lengths(root)
            for wrong in [(0, 0), (-1, 0), (0, -1), scaled(near[-1], -1), (-TWENTY_DIGITS, 1)]:
                for place in range(4):
                    pairs = [(1, 0), near[5], (0, 1), near[30]]
                    pairs[place] = wrong
                    for passed in [pairs, tuple(pairs), [*pairs, (0, 0)]]:
                        with self.assertRaises(BadLength) as caught:
                            first_number(passed, root)
                        self.assertEqual(caught.exception.at, place)


if __name__ == "__main__":
    unittest.main()
