"""[11], [12], [13]: cubes put on and taken off, roads, and what two piles have below and above them."""

import unittest
from itertools import product

from cornerpiles.errors import NoRoad
from cornerpiles.moves import (fewest_moved, lies_below, may_move, pile_above, pile_below, road_end, road_to)
from tests.helper import SMALL_BOXES, all_piles, all_places, below, empty_pile, full_pile

BOX = (2, 3, 4)
PILE = [[4, 2, 1], [3, 2, 0]]
OTHER = [[3, 3, 3], [3, 1, 1]]


def cubes_in(pile):
    return sum(map(sum, pile))


def moved(pile, sign, i, j):
    table = [list(row) for row in pile]
    table[i][j] += sign
    return table


def neighbours(box, piles):
    """For each pile, by its number in the list, those that one cube more or less makes of it, found by search."""
    return [[n for n, other in enumerate(piles)
             if sum(abs(a - b) for row, more in zip(pile, other) for a, b in zip(row, more)) == 1] for pile in piles]


def steps_from(start, nearby):
    """How many single steps each pile is away from one, by going through them all."""
    far = {start: 0}
    edge = [start]
    while edge:
        found = []
        for n in edge:
            for m in nearby[n]:
                if m not in far:
                    far[m] = far[n] + 1
                    found.append(m)
        edge = found
    return far


class MayMove(unittest.TestCase):
    def test_of_a_pile(self):
        self.assertEqual(may_move(BOX, PILE), ([(0, 1), (0, 2), (1, 0), (1, 2)], [(0, 0), (0, 2), (1, 0), (1, 1)]))

    def test_of_nothing_and_of_the_whole_box(self):
        self.assertEqual(may_move(BOX, empty_pile(BOX)), ([(0, 0)], []))
        self.assertEqual(may_move(BOX, full_pile(BOX)), ([], [(1, 2)]))
        self.assertEqual(may_move((1, 1, 2), [[1]]), ([(0, 0)], [(0, 0)]))

    def test_of_all_piles_of_small_boxes(self):
        for box in SMALL_BOXES:
            piles = all_piles(box)
            for pile in piles:
                told = may_move(box, pile)
                self.assertEqual(told, ([place for place in all_places(box) if moved(pile, 1, *place) in piles],
                                        [place for place in all_places(box) if moved(pile, -1, *place) in piles]))
                self.assertIs(type(told), tuple)
                self.assertEqual([type(part) for part in told], [list, list])
                self.assertTrue(all(type(place) is tuple for part in told for place in part))


class FewestMoved(unittest.TestCase):
    def test_of_two_piles(self):
        self.assertEqual(fewest_moved(BOX, PILE, OTHER), 6)
        self.assertEqual(fewest_moved(BOX, PILE, PILE), 0)
        self.assertEqual(fewest_moved((6, 6, 6), empty_pile((6, 6, 6)), full_pile((6, 6, 6))), 216)

    def test_no_road_has_fewer_and_one_has_so_many(self):
        for box in SMALL_BOXES:
            piles = all_piles(box)
            nearby = neighbours(box, piles)
            for n, pile in enumerate(piles):
                far = steps_from(n, nearby)
                for m, other in enumerate(piles):
                    self.assertEqual(fewest_moved(box, pile, other), far[m])


class RoadEnd(unittest.TestCase):
    def refused(self, box, pile, road):
        with self.subTest(box=box, pile=pile, road=road):
            with self.assertRaises(NoRoad) as caught:
                road_end(box, pile, road)
            self.assertIs(type(caught.exception), NoRoad)

    def test_no_step_at_all(self):
        self.assertEqual(road_end(BOX, PILE, []), PILE)

    def test_several_steps(self):
        self.assertEqual(road_end(BOX, PILE, [(1, 0, 2), (1, 1, 2), (-1, 0, 0)]), [[3, 2, 2], [3, 2, 1]])
        self.assertEqual(road_end(BOX, PILE, [(1, 1, 0), (-1, 1, 0)] * 500), PILE)

    def test_every_step_from_every_pile(self):
        for box in SMALL_BOXES:
            piles = all_piles(box)
            for pile in piles:
                for sign, (i, j) in product([1, -1], all_places(box)):
                    if moved(pile, sign, i, j) in piles:
                        self.assertEqual(road_end(box, pile, [(sign, i, j)]), moved(pile, sign, i, j))
                    else:
                        self.refused(box, pile, [(sign, i, j)])

    def test_it_leads_through_piles_though_it_would_end_at_one(self):
        self.refused((1, 2, 2), [[0, 0]], [(1, 0, 1), (1, 0, 0)])
        self.refused((2, 1, 2), [[1], [1]], [(-1, 0, 0), (-1, 1, 0)])
        self.refused((1, 1, 1), [[0]], [(-1, 0, 0), (1, 0, 0)])
        self.refused((1, 1, 1), [[1]], [(1, 0, 0), (-1, 0, 0)])

    def test_the_refused_step_may_stand_anywhere(self):
        good = [(1, 1, 0), (-1, 1, 0)] * 3
        for n in range(len(good) + 1):
            self.refused(BOX, PILE, good[:n] + [(1, 0, 0)] + good[n:])
            self.refused(BOX, PILE, good[:n] + [(0, 0, 0)] + good[n:])

    def test_signs_that_are_none(self):
        for sign in [0, 2, -2, 3, 10 ** 39, -10 ** 39]:
            self.refused((1, 1, 4), [[2]], [(sign, 0, 0)])
        self.refused((1, 1, 4), [[2]], [(True, 0, 0)])

    def test_what_is_no_tuple_of_three(self):
        for step in [(), (1,), (1, 0), (1, 0, 0, 0), [1, 0, 0], None, "1 0 0"]:
            self.refused((1, 1, 4), [[2]], [step])

    def test_places_that_are_none(self):
        for far in [-1, -2, -3, 2, 10 ** 39, -10 ** 39]:
            for sign in [1, -1]:
                self.refused((2, 2, 4), [[2, 1], [1, 0]], [(sign, far, 0)])
                self.refused((2, 2, 4), [[2, 1], [1, 0]], [(sign, 0, far)])
                self.refused((1, 1, 4), [[2]], [(sign, far, far)])
        for truth in [True, False]:
            self.refused((2, 2, 4), [[2, 1], [1, 0]], [(1, truth, 0)])
            self.refused((2, 2, 4), [[2, 1], [1, 0]], [(1, 0, truth)])
        self.refused((3, 2, 4), [[2, 1], [1, 1], [1, 0]], [(1, 0, 2)])
        self.refused((2, 3, 4), [[2, 1, 1], [1, 1, 0]], [(1, 2, 0)])


class RoadTo(unittest.TestCase):
    def right_road(self, box, pile, other):
        road = road_to(box, pile, other)
        self.assertIs(type(road), list)
        self.assertTrue(all(type(step) is tuple and len(step) == 3 for step in road))
        self.assertEqual(road_end(box, pile, road), other)
        lower = sum(max(0, a - b) for row, more in zip(pile, other) for a, b in zip(row, more))
        signs = [step[0] for step in road]
        self.assertEqual(signs, [-1] * lower + [1] * (cubes_in(other) - cubes_in(pile) + lower))
        self.assertEqual(len(road), fewest_moved(box, pile, other))
        self.assertEqual(road_to(box, pile, other), road)

    def test_of_two_piles(self):
        self.right_road(BOX, PILE, OTHER)
        self.right_road(BOX, OTHER, PILE)
        self.assertEqual(road_to(BOX, PILE, PILE), [])
        self.assertEqual(road_to((1, 1, 3), [[1]], [[3]]), [(1, 0, 0), (1, 0, 0)])
        self.assertEqual(road_to((1, 1, 3), [[3]], [[2]]), [(-1, 0, 0)])

    def test_of_all_piles_of_small_boxes(self):
        for box in [(1, 1, 3), (1, 3, 1), (3, 1, 1), (1, 2, 3), (2, 2, 2), (2, 3, 2)]:
            piles = all_piles(box)
            for pile, other in product(piles, piles):
                self.right_road(box, pile, other)

    def test_in_the_greatest_box(self):
        box = (6, 6, 6)
        stairs = [[max(0, 6 - i - j) for j in range(6)] for i in range(6)]
        flat = [[2] * 6 for i in range(6)]
        wall = [[6] * 6] + [[0] * 6 for i in range(5)]
        for pile, other in product([empty_pile(box), full_pile(box), stairs, flat, wall], repeat=2):
            self.right_road(box, pile, other)


class BelowAndAbove(unittest.TestCase):
    def test_of_two_piles(self):
        self.assertEqual(pile_below(BOX, PILE, OTHER), [[3, 2, 1], [3, 1, 0]])
        self.assertEqual(pile_above(BOX, PILE, OTHER), [[4, 3, 3], [3, 2, 1]])

    def test_whether_one_lies_below(self):
        self.assertIs(lies_below(BOX, PILE, OTHER), False)
        self.assertIs(lies_below(BOX, OTHER, PILE), False)
        self.assertIs(lies_below(BOX, PILE, PILE), True)
        self.assertIs(lies_below(BOX, empty_pile(BOX), PILE), True)
        self.assertIs(lies_below(BOX, PILE, empty_pile(BOX)), False)
        self.assertIs(lies_below(BOX, PILE, full_pile(BOX)), True)

    def test_all_piles_of_small_boxes(self):
        for box in [(1, 1, 3), (1, 3, 1), (3, 1, 1), (1, 2, 3), (3, 2, 1), (2, 2, 2)]:
            piles = all_piles(box)
            for pile, other in product(piles, piles):
                self.assertIs(lies_below(box, pile, other), below(pile, other))
                lower = [some for some in piles if below(some, pile) and below(some, other)]
                higher = [some for some in piles if below(pile, some) and below(other, some)]
                self.assertEqual(pile_below(box, pile, other), max(lower, key=cubes_in))
                self.assertTrue(all(below(some, pile_below(box, pile, other)) for some in lower))
                self.assertEqual(pile_above(box, pile, other), min(higher, key=cubes_in))
                self.assertTrue(all(below(pile_above(box, pile, other), some) for some in higher))


if __name__ == "__main__":
    unittest.main()
