"""[5], [6], [7]: boxes, piles, their cubes, and piles mirrored, rolled and turned to their rest."""

import unittest
from itertools import product

from cornerpiles.errors import NoPile
from cornerpiles.piles import (cubes_of, how_many_cubes, is_box, is_pile, mirrored_pile, pile_of_cubes, rest_of,
                               rolled_pile)
from tests.helper import NO_BOXES, NOTHINGS, SMALL_BOXES, all_cubes, all_piles, with_self

BOX = (2, 3, 4)
PILE = [[4, 2, 1], [3, 2, 0]]


class Boxes(unittest.TestCase):
    def test_boxes_of_any_size(self):
        for box in [(1, 1, 1), (2, 3, 4), (6, 6, 6), (7, 1, 100), (1, 1, 10 ** 39), (10 ** 5000, 1, 10 ** 39)]:
            self.assertIs(is_box(box), True)

    def test_what_is_none(self):
        for thing in NO_BOXES + NOTHINGS + [with_self(), (1, 1, with_self())]:
            self.assertIs(is_box(thing), False)


class IsPile(unittest.TestCase):
    def test_piles(self):
        empty = [[0, 0, 0], [0, 0, 0]]
        full = [[4, 4, 4], [4, 4, 4]]
        for pile in [empty, full, PILE, [[1, 0, 0], [0, 0, 0]], [[4, 4, 3], [4, 4, 3]], [[2, 2, 2], [2, 2, 2]]]:
            self.assertIs(is_pile(BOX, pile), True)

    def test_one_list_may_be_handed_in_as_several_rows(self):
        row = [2, 1, 0]
        self.assertIs(is_pile(BOX, [row, row]), True)

    def test_every_table_of_small_heights(self):
        for box in [(2, 2, 2), (1, 3, 2), (3, 1, 2), (1, 1, 1), (2, 3, 1)]:
            piles = all_piles(box)
            a, b, c = box
            for heights in product(range(-1, c + 2), repeat=a * b):
                table = [list(heights[i * b:(i + 1) * b]) for i in range(a)]
                self.assertIs(is_pile(box, table), table in piles)

    def test_heights_that_are_none(self):
        for height in [5, 10 ** 39, -1, -10 ** 39, True, False, "1", "", None, 1.0, 0.0, (1,), [1], {}, float("nan")]:
            for i, j in product(range(2), range(3)):
                table = [[1, 1, 1], [1, 1, 1]]
                table[i][j] = height
                self.assertIs(is_pile(BOX, table), False)

    def test_truths_are_no_heights_where_the_number_would_do(self):
        self.assertIs(is_pile((1, 1, 1), [[True]]), False)
        self.assertIs(is_pile((1, 1, 1), [[False]]), False)
        self.assertIs(is_pile((1, 2, 2), [[2, True]]), False)

    def test_heights_that_rise(self):
        for table in [[[1, 2, 0], [0, 0, 0]], [[2, 0, 1], [0, 0, 0]], [[4, 4, 4], [2, 2, 3]],
                      [[1, 1, 1], [2, 1, 1]], [[1, 0, 0], [1, 1, 0]], [[1, 1, 0], [1, 1, 1]]]:
            self.assertIs(is_pile(BOX, table), False)

    def test_rows_too_many_or_too_few(self):
        for table in [[], [[0, 0, 0]], [[0, 0, 0]] * 3, [[0, 0, 0]] * 1000]:
            self.assertIs(is_pile(BOX, table), False)

    def test_places_too_many_or_too_few(self):
        for row in [[], [0], [0, 0], [0, 0, 0, 0], [0] * 1000]:
            self.assertIs(is_pile(BOX, [[1, 1, 1], row]), False)
            self.assertIs(is_pile(BOX, [row, [0, 0, 0]]), False)

    def test_rows_of_another_kind(self):
        for row in [None, True, 0, "000", (0, 0, 0), {0: 0, 1: 0, 2: 0}, {0}, range(0, 3), b"\0\0\0"]:
            self.assertIs(is_pile(BOX, [[1, 1, 1], row]), False)
            self.assertIs(is_pile(BOX, [row, [0, 0, 0]]), False)

    def test_tables_of_another_kind(self):
        for thing in [([0, 0, 0], [0, 0, 0]), ((0, 0, 0), (0, 0, 0)), {0: [0, 0, 0], 1: [0, 0, 0]}, with_self(),
                      [with_self(), with_self()]] + NOTHINGS:
            self.assertIs(is_pile(BOX, thing), False)

    def test_anything_in_a_box_of_any_size(self):
        for thing in NOTHINGS + [[[0]], [[0, 0]] * 1000]:
            self.assertIs(is_pile((10 ** 39, 10 ** 39, 10 ** 39), thing), False)
            self.assertIs(is_pile((1, 10 ** 39, 1), thing), False)
        self.assertIs(is_pile((1, 1, 10 ** 39), [[10 ** 39]]), True)
        self.assertIs(is_pile((1, 1, 10 ** 39), [[10 ** 39 + 1]]), False)


class Cubes(unittest.TestCase):
    def test_told_sorted(self):
        self.assertEqual(cubes_of((2, 2, 3), [[3, 1], [1, 0]]),
                         [(0, 0, 0), (0, 0, 1), (0, 0, 2), (0, 1, 0), (1, 0, 0)])

    def test_of_nothing_and_of_the_whole_box(self):
        self.assertEqual(cubes_of(BOX, [[0, 0, 0], [0, 0, 0]]), [])
        self.assertEqual(how_many_cubes(BOX, [[0, 0, 0], [0, 0, 0]]), 0)
        self.assertEqual(cubes_of(BOX, [[4, 4, 4], [4, 4, 4]]), all_cubes(BOX))
        self.assertEqual(how_many_cubes(BOX, [[4, 4, 4], [4, 4, 4]]), 24)

    def test_how_many(self):
        self.assertEqual(how_many_cubes(BOX, PILE), 12)
        self.assertEqual(how_many_cubes((6, 6, 6), [[6] * 6 for i in range(6)]), 216)

    def test_of_all_piles_of_small_boxes(self):
        for box in SMALL_BOXES:
            for pile in all_piles(box):
                cubes = [(i, j, k) for i, j, k in all_cubes(box) if k < pile[i][j]]
                told = cubes_of(box, pile)
                self.assertEqual(told, cubes)
                self.assertIs(type(told), list)
                self.assertTrue(all(type(cube) is tuple for cube in told))
                self.assertEqual(how_many_cubes(box, pile), len(cubes))


class PileOfCubes(unittest.TestCase):
    def refused(self, box, cubes):
        with self.subTest(box=box, cubes=cubes):
            with self.assertRaises(NoPile):
                pile_of_cubes(box, cubes)

    def test_in_any_order_and_some_twice(self):
        cubes = cubes_of(BOX, PILE)
        self.assertEqual(pile_of_cubes(BOX, cubes), PILE)
        self.assertEqual(pile_of_cubes(BOX, cubes[::-1]), PILE)
        self.assertEqual(pile_of_cubes(BOX, cubes[5:] + cubes[:5]), PILE)
        self.assertEqual(pile_of_cubes(BOX, cubes[3:] + cubes + cubes[-1:] * 3), PILE)

    def test_of_no_cubes_and_of_all(self):
        self.assertEqual(pile_of_cubes(BOX, []), [[0, 0, 0], [0, 0, 0]])
        self.assertEqual(pile_of_cubes(BOX, all_cubes(BOX)), [[4, 4, 4], [4, 4, 4]])
        self.assertEqual(pile_of_cubes((6, 6, 6), all_cubes((6, 6, 6)) * 5), [[6] * 6 for i in range(6)])

    def test_every_choice_of_cubes(self):
        for box in [(2, 2, 2), (1, 2, 3), (3, 2, 1), (1, 1, 4), (4, 1, 1), (1, 4, 1)]:
            cubes = all_cubes(box)
            piles = {tuple(cubes_of(box, pile)): pile for pile in all_piles(box)}
            for chosen in product([False, True], repeat=len(cubes)):
                some = [cube for cube, there in zip(cubes, chosen) if there]
                if tuple(some) in piles:
                    self.assertEqual(pile_of_cubes(box, some), piles[tuple(some)])
                else:
                    self.refused(box, some)

    def test_one_is_lacking(self):
        self.refused((2, 2, 2), [(0, 0, 1)])
        self.refused((2, 2, 2), [(0, 1, 0)])
        self.refused((2, 2, 2), [(1, 0, 0)])
        self.refused((2, 2, 2), [(0, 0, 0), (0, 1, 0), (1, 1, 0)])
        self.refused((2, 2, 2), [(0, 0, 0), (1, 0, 0), (1, 1, 0)])
        self.refused((3, 3, 3), [(0, 0, 0), (0, 0, 2)])
        self.refused((3, 3, 3), [(0, 0, 0), (0, 0, 0), (0, 0, 2)])

    def test_out_of_the_box(self):
        for far in [-1, -2, -3, -4, -10 ** 39, 10 ** 39]:
            for cube in [(far, 0, 0), (0, far, 0), (0, 0, far), (far, far, far)]:
                self.refused(BOX, [cube])
                self.refused(BOX, all_cubes(BOX) + [cube])
                self.refused(BOX, [cube] + all_cubes(BOX))
        for cube in [(2, 0, 0), (0, 3, 0), (0, 0, 4), (2, 3, 4)]:
            self.refused(BOX, [cube])
            self.refused(BOX, all_cubes(BOX) + [cube])

    def test_truths_are_no_whole_numbers(self):
        self.refused((2, 2, 2), [(False, 0, 0)])
        self.refused((2, 2, 2), [(0, False, 0)])
        self.refused((2, 2, 2), [(0, 0, False)])
        self.refused((2, 2, 2), [(0, 0, 0), (0, 0, True)])

    def test_what_are_no_cubes(self):
        for thing in [((0, 0, 0),), (), None, "", {}, [[0, 0, 0]], [(0, 0)], [(0, 0, 0, 0)], [None], ["000"],
                      [(0, 0, "0")], [(0, 0, 0.0)], [([], 0, 0)]]:
            self.refused((2, 2, 2), thing)


class Turned(unittest.TestCase):
    def test_mirrored(self):
        self.assertEqual(mirrored_pile(BOX, PILE), [[4, 3], [2, 2], [1, 0]])
        self.assertTrue(is_pile((3, 2, 4), mirrored_pile(BOX, PILE)))

    def test_rolled(self):
        self.assertEqual(rolled_pile(BOX, PILE), [[2, 2, 2, 1], [2, 2, 0, 0], [1, 0, 0, 0]])
        self.assertTrue(is_pile((3, 4, 2), rolled_pile(BOX, PILE)))

    def test_rest(self):
        self.assertEqual(rest_of(BOX, PILE), [[4, 2, 1], [3, 2, 0]])
        self.assertEqual(rest_of(BOX, [[1, 0, 0], [0, 0, 0]]), [[4, 4, 4], [4, 4, 3]])
        self.assertEqual(rest_of(BOX, [[4, 3, 1], [2, 0, 0]]), [[4, 4, 2], [3, 1, 0]])

    def test_of_nothing_and_of_the_whole_box(self):
        empty = [[0, 0, 0], [0, 0, 0]]
        full = [[4, 4, 4], [4, 4, 4]]
        self.assertEqual(rest_of(BOX, empty), full)
        self.assertEqual(rest_of(BOX, full), empty)
        self.assertEqual(rolled_pile(BOX, empty), [[0] * 4] * 3)
        self.assertEqual(rolled_pile(BOX, full), [[2] * 4] * 3)
        self.assertEqual(mirrored_pile(BOX, empty), [[0, 0]] * 3)
        self.assertEqual(mirrored_pile(BOX, full), [[4, 4]] * 3)

    def test_all_piles_cube_by_cube(self):
        for box in SMALL_BOXES + [(1, 2, 4), (2, 3, 1), (3, 1, 2), (2, 1, 3)]:
            a, b, c = box
            for pile in all_piles(box):
                cubes = cubes_of(box, pile)
                self.assertEqual(cubes_of((b, a, c), mirrored_pile(box, pile)),
                                 sorted((j, i, k) for i, j, k in cubes))
                self.assertEqual(cubes_of((b, c, a), rolled_pile(box, pile)),
                                 sorted((j, k, i) for i, j, k in cubes))
                self.assertEqual(cubes_of(box, rest_of(box, pile)),
                                 sorted((a - 1 - i, b - 1 - j, c - 1 - k)
                                        for i, j, k in all_cubes(box) if (i, j, k) not in cubes))

    def test_turned_often_enough_each_is_back(self):
        self.assertEqual(mirrored_pile((3, 2, 4), mirrored_pile(BOX, PILE)), PILE)
        self.assertEqual(rest_of(BOX, rest_of(BOX, [[4, 3, 1], [2, 0, 0]])), [[4, 3, 1], [2, 0, 0]])
        once = rolled_pile(BOX, PILE)
        twice = rolled_pile((3, 4, 2), once)
        self.assertEqual(rolled_pile((4, 2, 3), twice), PILE)


if __name__ == "__main__":
    unittest.main()
