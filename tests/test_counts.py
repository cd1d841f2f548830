"""[14], [15]: how many piles a box has, in all and of each number of cubes, by several roads."""

import unittest
from fractions import Fraction
from itertools import product

from cornerpiles.counts import by_cubes, by_cubes_product, count_by_product, count_by_rows, count_by_ways
from tests.helper import PILES_OF_SMALL_BOXES, SMALL_BOXES, all_piles

COUNTS = [count_by_rows, count_by_ways, count_by_product]
LISTS = [by_cubes, by_cubes_product]

GONE_THROUGH = SMALL_BOXES + [(1, 1, 6), (1, 6, 1), (6, 1, 1), (1, 2, 6), (6, 2, 1), (1, 6, 2), (2, 2, 4), (2, 4, 2),
                              (4, 2, 2), (3, 3, 2), (2, 3, 3)]

ALL_BOXES = list(product(range(1, 7), repeat=3))

# Of 1, 2, 3 .. rows, columns and height alike, as they stand in print.
OF_LIKE_NUMBERS = [2, 20, 980, 232848, 267227532, 1478619421136]


def product_of(box):
    a, b, c = box
    many = Fraction(1)
    for i, j, k in product(range(1, a + 1), range(1, b + 1), range(1, c + 1)):
        many *= Fraction(i + j + k - 1, i + j + k - 2)
    return many


def cubes_gone_through(box):
    a, b, c = box
    tally = [0] * (a * b * c + 1)
    for pile in all_piles(box):
        tally[sum(map(sum, pile))] += 1
    return tally


class Counts(unittest.TestCase):
    def test_all_piles_gone_through(self):
        for box in GONE_THROUGH:
            many = len(all_piles(box))
            for count in COUNTS:
                with self.subTest(box=box, count=count.__name__):
                    self.assertEqual(count(box), many)

    def test_small_boxes(self):
        for box, many in zip(SMALL_BOXES, PILES_OF_SMALL_BOXES):
            self.assertEqual([count(box) for count in COUNTS], [many] * 3)

    def test_boxes_of_like_numbers(self):
        for n, many in enumerate(OF_LIKE_NUMBERS, start=1):
            self.assertEqual([count((n, n, n)) for count in COUNTS], [many] * 3)

    def test_all_three_are_one_number_in_every_box(self):
        for box in ALL_BOXES:
            with self.subTest(box):
                self.assertEqual([count(box) for count in COUNTS], [product_of(box)] * 3)

    def test_each_is_a_whole_number(self):
        for box in ALL_BOXES:
            self.assertEqual([type(count(box)) for count in COUNTS], [int] * 3)

    def test_boxes_somewhat_greater(self):
        for box in [(7, 6, 6), (6, 7, 6), (6, 6, 7), (1, 1, 100), (100, 1, 1), (1, 100, 1), (12, 2, 2), (2, 2, 12)]:
            self.assertEqual([count(box) for count in COUNTS], [product_of(box)] * 3)


class ByCubes(unittest.TestCase):
    def test_all_piles_gone_through(self):
        for box in GONE_THROUGH:
            tally = cubes_gone_through(box)
            for told in LISTS:
                with self.subTest(box=box, told=told.__name__):
                    self.assertEqual(told(box), tally)

    def test_some_boxes(self):
        for told in LISTS:
            self.assertEqual(told((1, 1, 1)), [1, 1])
            self.assertEqual(told((1, 1, 4)), [1, 1, 1, 1, 1])
            self.assertEqual(told((2, 2, 1)), [1, 1, 2, 1, 1])
            self.assertEqual(told((2, 2, 2)), [1, 1, 3, 3, 4, 3, 3, 1, 1])

    def test_both_are_one_list_in_every_box(self):
        for box in ALL_BOXES:
            a, b, c = box
            with self.subTest(box):
                told = by_cubes(box)
                self.assertEqual(told, by_cubes_product(box))
                self.assertEqual(len(told), a * b * c + 1)
                self.assertEqual(told, told[::-1])
                self.assertEqual(sum(told), product_of(box))

    def test_each_is_a_list_of_whole_numbers(self):
        for box in [(1, 1, 1), (2, 3, 4), (6, 6, 6)]:
            for told in LISTS:
                self.assertIs(type(told(box)), list)
                self.assertTrue(all(type(many) is int for many in told(box)))

    def test_few_cubes_in_the_greatest_box(self):
        for told in LISTS:
            self.assertEqual(told((6, 6, 6))[:7], [1, 1, 3, 6, 13, 24, 48])


if __name__ == "__main__":
    unittest.main()
