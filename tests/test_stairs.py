"""[8]: the staircases of a pile, judged of anything, and led back."""

import unittest
from itertools import product

from cornerpiles.errors import NoStairs
from cornerpiles.stairs import are_stairs, pile_of_stairs, stairs_of
from tests.helper import NOTHINGS, SMALL_BOXES, all_piles, with_self

BOX = (2, 3, 4)
PILE = [[4, 2, 1], [3, 2, 0]]
STAIRS = [[3, 2], [2, 2], [1, 1], [1, 0]]


class StairsOf(unittest.TestCase):
    def test_of_a_pile(self):
        self.assertEqual(stairs_of(BOX, PILE), STAIRS)

    def test_of_nothing_and_of_the_whole_box(self):
        self.assertEqual(stairs_of(BOX, [[0, 0, 0], [0, 0, 0]]), [[0, 0]] * 4)
        self.assertEqual(stairs_of(BOX, [[4, 4, 4], [4, 4, 4]]), [[3, 3]] * 4)

    def test_of_all_piles_of_small_boxes(self):
        for box in SMALL_BOXES:
            for pile in all_piles(box):
                stairs = [[sum(height > k for height in row) for row in pile] for k in range(box[2])]
                self.assertEqual(stairs_of(box, pile), stairs)
                self.assertIs(are_stairs(box, stairs), True)
                self.assertEqual(pile_of_stairs(box, stairs), pile)


class AreStairs(unittest.TestCase):
    def none(self, box, thing):
        with self.subTest(box=box):
            self.assertIs(are_stairs(box, thing), False)
            with self.assertRaises(NoStairs):
                pile_of_stairs(box, thing)

    def test_staircases(self):
        for stairs in [STAIRS, [[0, 0]] * 4, [[3, 3]] * 4, [[3, 0]] * 4, [[3, 3], [3, 2], [0, 0], [0, 0]]]:
            self.assertIs(are_stairs(BOX, stairs), True)

    def test_every_table_of_small_numbers(self):
        for box in [(2, 1, 2), (1, 2, 3), (2, 2, 1), (3, 1, 1), (2, 2, 2)]:
            a, b, c = box
            told = [stairs_of(box, pile) for pile in all_piles(box)]
            for numbers in product(range(-1, b + 2), repeat=a * c):
                table = [list(numbers[k * a:(k + 1) * a]) for k in range(c)]
                if table in told:
                    self.assertIs(are_stairs(box, table), True)
                    self.assertEqual(stairs_of(box, pile_of_stairs(box, table)), table)
                else:
                    self.none(box, table)

    def test_a_number_greater_than_that_below_it(self):
        self.none(BOX, [[2, 2], [3, 2], [1, 1], [1, 0]])
        self.none(BOX, [[3, 1], [2, 2], [1, 1], [1, 0]])
        self.none(BOX, [[3, 2], [2, 2], [1, 0], [1, 1]])

    def test_a_number_greater_than_the_one_ahead_of_it(self):
        self.none(BOX, [[2, 3], [2, 2], [1, 1], [1, 0]])
        self.none(BOX, [[3, 2], [2, 2], [1, 1], [0, 1]])

    def test_numbers_that_are_none(self):
        for number in [4, -1, 10 ** 39, -10 ** 39, True, False, "1", None, 1.0, [1], (1,), {}]:
            for k, i in product(range(4), range(2)):
                table = [[1, 1], [1, 1], [1, 1], [1, 1]]
                table[k][i] = number
                self.none(BOX, table)

    def test_too_many_or_too_few(self):
        for table in [[], STAIRS[:3], STAIRS + [[0, 0]], [[0, 0]] * 1000, [[0, 0, 0]] * 4, [[0]] * 4, [[]] * 4,
                      [[0, 0], [0, 0], [0, 0], [0]], [[0, 0], [0, 0], [0, 0, 0], [0, 0]]]:
            self.none(BOX, table)

    def test_the_pile_itself_is_none_where_the_box_has_unlike_numbers(self):
        self.none(BOX, PILE)
        self.none((4, 2, 3), STAIRS)

    def test_of_another_kind(self):
        for thing in [tuple(STAIRS), [tuple(stair) for stair in STAIRS], dict(enumerate(STAIRS)), with_self(),
                      [with_self()] * 4, ["00"] * 4, [None] * 4] + NOTHINGS:
            self.none(BOX, thing)
            self.none((1, 1, 1), thing)

    def test_truths_are_no_whole_numbers(self):
        self.none((1, 1, 1), [[True]])
        self.none((1, 1, 1), [[False]])

    def test_anything_in_a_box_of_any_size(self):
        for thing in NOTHINGS + [[[0]], [[0]] * 1000, [[0, 0]]]:
            self.none((10 ** 39, 10 ** 39, 10 ** 39), thing)
            self.none((10 ** 39, 1, 1), thing)


if __name__ == "__main__":
    unittest.main()
