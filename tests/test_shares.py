"""[18]: the share of a cube, the mean height at a place and the mean number of cubes."""

import unittest
from fractions import Fraction
from itertools import product

from cornerpiles.between import how_many_between
from cornerpiles.errors import NoNumber, NoPlace
from cornerpiles.shares import cube_share, mean_cubes, mean_height
from tests.helper import (SMALL_BOXES, all_cubes, all_piles, all_places, empty_pile, full_pile, piles_between,
                          refusal_of)

BOX = (2, 3, 4)
LOW = [[2, 1, 0], [1, 0, 0]]
HIGH = [[4, 2, 1], [3, 2, 1]]


def fraction(top, bottom):
    """Python's own fractions are in least numbers, the bottom from 1 on."""
    least = Fraction(top, bottom)
    return (least.numerator, least.denominator)


class Shares(unittest.TestCase):
    def is_fraction(self, told, top, bottom):
        self.assertEqual(told, fraction(top, bottom))
        self.assertIs(type(told), tuple)
        self.assertEqual([type(part) for part in told], [int, int])

    def check(self, box, low, high, piles):
        many = len(piles)
        for i, j, k in all_cubes(box):
            having = len([pile for pile in piles if pile[i][j] > k])
            self.is_fraction(cube_share(box, low, high, (i, j, k)), having, many)
        for i, j in all_places(box):
            self.is_fraction(mean_height(box, low, high, i, j), sum(pile[i][j] for pile in piles), many)
        self.is_fraction(mean_cubes(box, low, high), sum(sum(map(sum, pile)) for pile in piles), many)

    def test_of_two_piles(self):
        self.check(BOX, LOW, HIGH, piles_between(all_piles(BOX), LOW, HIGH))

    def test_of_all_piles_of_a_box(self):
        for box in SMALL_BOXES + [(3, 3, 2), (2, 3, 3)]:
            self.check(box, empty_pile(box), full_pile(box), all_piles(box))

    def test_of_all_two_piles_of_small_boxes(self):
        for box in [(1, 1, 3), (1, 3, 1), (3, 1, 1), (1, 2, 3), (2, 2, 2)]:
            piles = all_piles(box)
            for low, high in product(piles, piles):
                between = piles_between(piles, low, high)
                if between:
                    self.check(box, low, high, between)

    def test_of_none_and_of_all(self):
        self.assertEqual(cube_share(BOX, LOW, HIGH, (0, 0, 1)), (1, 1))
        self.assertEqual(cube_share(BOX, LOW, HIGH, (0, 1, 2)), (0, 1))
        self.assertEqual(mean_height(BOX, LOW, LOW, 1, 2), (0, 1))
        self.assertEqual(mean_height(BOX, LOW, LOW, 0, 0), (2, 1))
        self.assertEqual(mean_cubes(BOX, LOW, LOW), (4, 1))
        self.assertEqual(mean_cubes(BOX, empty_pile(BOX), empty_pile(BOX)), (0, 1))

    def test_sums_of_shares_in_a_greater_box(self):
        box = (4, 3, 5)
        low = [[1, 1, 0], [1, 0, 0], [0, 0, 0], [0, 0, 0]]
        high = [[5, 5, 4], [5, 4, 4], [5, 2, 1], [3, 2, 0]]
        total = Fraction(0)
        for i, j in all_places(box):
            shares = [Fraction(*cube_share(box, low, high, (i, j, k))) for k in range(5)]
            self.assertEqual(mean_height(box, low, high, i, j), fraction(sum(shares), 1))
            total += sum(shares)
        self.assertEqual(mean_cubes(box, low, high), fraction(total, 1))

    def test_in_the_greatest_box(self):
        box = (6, 6, 6)
        low, high = empty_pile(box), full_pile(box)
        self.assertEqual(mean_cubes(box, low, high), (108, 1))
        for i, j, k in [(0, 0, 0), (0, 5, 2), (3, 2, 1), (5, 5, 5)]:
            share = Fraction(*cube_share(box, low, high, (i, j, k)))
            other = Fraction(*cube_share(box, low, high, (5 - i, 5 - j, 5 - k)))
            self.assertEqual(share + other, 1)
            cuboid = [[k + 1 if m <= i and n <= j else 0 for n in range(6)] for m in range(6)]
            having = how_many_between(box, cuboid, high)
            self.is_fraction(cube_share(box, low, high, (i, j, k)), having, 1478619421136)
        shares = [Fraction(*cube_share(box, low, high, (1, 4, k))) for k in range(6)]
        self.assertEqual(mean_height(box, low, high, 1, 4), fraction(sum(shares), 1))


class Refused(unittest.TestCase):
    def test_none_between(self):
        for low, high in [(HIGH, LOW), ([[2, 2, 0], [2, 0, 0]], [[3, 1, 1], [2, 1, 1]])]:
            self.assertIs(refusal_of(cube_share, BOX, low, high, (0, 0, 0)), NoNumber)
            self.assertIs(refusal_of(mean_height, BOX, low, high, 0, 0), NoNumber)
            self.assertIs(refusal_of(mean_cubes, BOX, low, high), NoNumber)

    def test_no_number_comes_ahead_of_no_place(self):
        self.assertIs(refusal_of(cube_share, BOX, HIGH, LOW, (2, 0, 0)), NoNumber)
        self.assertIs(refusal_of(cube_share, BOX, HIGH, LOW, (0, 0, -1)), NoNumber)
        self.assertIs(refusal_of(mean_height, BOX, HIGH, LOW, 0, 3), NoNumber)

    def test_cubes_that_are_none(self):
        for far in [-1, -2, -3, -4, 4, 10 ** 39, -10 ** 39]:
            for cube in [(far, 0, 0), (0, far, 0), (0, 0, far)]:
                self.assertIs(refusal_of(cube_share, BOX, LOW, HIGH, cube), NoPlace, cube)
        for cube in [(2, 0, 0), (0, 3, 0), (0, 0, 4)]:
            self.assertIs(refusal_of(cube_share, BOX, LOW, HIGH, cube), NoPlace, cube)
        for cube in [(1, 0, 0), (0, 2, 0), (0, 0, 3)]:
            self.assertIsNone(refusal_of(cube_share, BOX, LOW, HIGH, cube), cube)

    def test_places_that_are_none(self):
        for i, j in [(-1, 0), (0, -1), (-2, -3), (2, 0), (0, 3), (10 ** 39, 0), (0, -10 ** 39)]:
            self.assertIs(refusal_of(mean_height, BOX, LOW, HIGH, i, j), NoPlace)
        self.assertIsNone(refusal_of(mean_height, BOX, LOW, HIGH, 1, 2))


if __name__ == "__main__":
    unittest.main()
