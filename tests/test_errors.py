"""[3]: the classes of refusals, and that a box that is none comes ahead of all else."""

import unittest

from cornerpiles import errors
from cornerpiles.between import bounds_with, how_many_between, nth_between, number_between
from cornerpiles.counts import by_cubes, by_cubes_product, count_by_product, count_by_rows, count_by_ways
from cornerpiles.forms import (alike_in_form, forms_of, how_many_even, how_many_round, how_many_whole, is_even,
                               is_round, is_whole)
from cornerpiles.moves import fewest_moved, lies_below, may_move, pile_above, pile_below, road_end, road_to
from cornerpiles.piles import (cubes_of, how_many_cubes, is_pile, mirrored_pile, pile_of_cubes, rest_of,
                               rolled_pile)
from cornerpiles.shares import cube_share, mean_cubes, mean_height
from cornerpiles.stairs import are_stairs, pile_of_stairs, stairs_of
from cornerpiles.texts import picture, read_box, read_pile, show_box, show_pile
from cornerpiles.ways import are_ways, never_touch, pile_of_ways, ways_of
from tests.helper import NO_BOXES, NOTHINGS, with_self

NAMES = ["NoBox", "NoPile", "NoStairs", "NoWays", "NoRoad", "NoNumber", "NoPlace", "TooMany", "NoText",
         "NoName", "NoRow"]

OF_A_PILE = [cubes_of, how_many_cubes, mirrored_pile, rolled_pile, rest_of, stairs_of, ways_of, may_move, is_even,
             is_whole, is_round, forms_of, show_pile, picture]
OF_OTHER_THINGS = [is_pile, pile_of_cubes, are_stairs, pile_of_stairs, are_ways, pile_of_ways, never_touch,
                   bounds_with, read_pile]
OF_A_BOX = [count_by_rows, count_by_ways, count_by_product, by_cubes, by_cubes_product, how_many_even,
            how_many_whole, how_many_round, show_box]
OF_TWO_PILES = [fewest_moved, road_to, pile_below, pile_above, lies_below, how_many_between, mean_cubes]

# What is handed in behind the box: piles, then things that are refused on their own.
PILE = [[2, 1], [1, 0]]
LOWER = [[1, 1], [0, 0]]
PILES_THEN_REFUSED = [
    (road_end, [PILE], ([(0, 0, 0)],), errors.NoRoad),
    (nth_between, [LOWER, PILE], (-1,), errors.NoNumber),
    (nth_between, [PILE, LOWER], (0,), errors.NoNumber),
    (number_between, [LOWER, PILE, [[2, 2], [0, 0]]], (), errors.NoPlace),
    (number_between, [PILE, LOWER, PILE], (), errors.NoPlace),
    (cube_share, [LOWER, PILE], ((0, 0, 2),), errors.NoPlace),
    (cube_share, [PILE, LOWER], ((0, 0, 2),), errors.NoNumber),
    (mean_height, [LOWER, PILE], (2, 0), errors.NoPlace),
    (mean_height, [PILE, LOWER], (2, 0), errors.NoNumber),
    (mean_cubes, [PILE, LOWER], (), errors.NoNumber),
]

NO_PILES = [[], with_self(), [[1, 2], [0, 0]], [[1, 0], [1, 1]], [[3, 0], [0, 0]]]


class Classes(unittest.TestCase):
    def test_pile_error_stands_straight_under_value_error(self):
        self.assertEqual(errors.PileError.__bases__, (ValueError,))

    def test_each_stands_straight_under_pile_error(self):
        for name in NAMES:
            with self.subTest(name):
                self.assertEqual(getattr(errors, name).__bases__, (errors.PileError,))

    def test_none_stands_under_another(self):
        for name in NAMES:
            for other in NAMES:
                if name != other:
                    with self.subTest(name=name, other=other):
                        self.assertFalse(issubclass(getattr(errors, name), getattr(errors, other)))

    def test_each_is_called_as_told(self):
        for name in NAMES + ["PileError"]:
            self.assertEqual(getattr(errors, name).__name__, name)

    def test_each_is_made_with_one_text(self):
        for name in NAMES + ["PileError"]:
            with self.subTest(name):
                self.assertEqual(getattr(errors, name)("some words").args, ("some words",))
                self.assertEqual(str(getattr(errors, name)("some words")), "some words")


class Order(unittest.TestCase):
    def refused(self, refusal, function, box, *things):
        with self.subTest(function=function.__name__, box=box):
            with self.assertRaises(errors.PileError) as caught:
                function(box, *things)
            self.assertIs(type(caught.exception), refusal)
            self.assertEqual([type(word) for word in caught.exception.args], [str])

    def test_a_box_that_is_none_comes_ahead_of_anything(self):
        good = [[[1]], [(0, 0, 0)], [], ["rd"], [[2, 1], [1, 0]], with_self()]
        for function in OF_A_PILE + OF_OTHER_THINGS:
            for box in NO_BOXES:
                for thing in good + NOTHINGS:
                    self.refused(errors.NoBox, function, box, thing)

    def test_then_a_pile_that_is_none(self):
        for function in OF_A_PILE:
            for thing in NOTHINGS + NO_PILES:
                self.refused(errors.NoPile, function, (2, 2, 2), thing)

    def test_a_pile_of_another_box_is_none(self):
        for function in OF_A_PILE:
            self.refused(errors.NoPile, function, (3, 2, 2), [[1, 1, 1], [1, 1, 1]])

    def test_a_pile_is_refused_in_a_box_of_any_size(self):
        for function in OF_A_PILE:
            for thing in NOTHINGS + [with_self(), [[0]]]:
                self.refused(errors.NoPile, function, (10 ** 39, 10 ** 39, 10 ** 39), thing)

    def test_a_box_that_is_none_where_nothing_else_is_handed_in(self):
        for function in OF_A_BOX:
            for box in NO_BOXES + NOTHINGS:
                self.refused(errors.NoBox, function, box)

    def test_a_box_that_is_none_comes_ahead_of_two_piles(self):
        for function in OF_TWO_PILES:
            for box in NO_BOXES:
                for pile, other in [(LOWER, PILE), (PILE, None), (None, PILE), ([], "")]:
                    self.refused(errors.NoBox, function, box, pile, other)

    def test_either_of_two_piles_may_be_none(self):
        for function in OF_TWO_PILES:
            for thing in NOTHINGS + NO_PILES:
                self.refused(errors.NoPile, function, (2, 2, 2), thing, PILE)
                self.refused(errors.NoPile, function, (2, 2, 2), LOWER, thing)
                self.refused(errors.NoPile, function, (2, 2, 2), thing, thing)

    def test_piles_come_ahead_of_what_else_is_refused(self):
        for function, piles, others, refusal in PILES_THEN_REFUSED:
            self.refused(refusal, function, (2, 2, 2), *piles, *others)
            for n in range(len(piles)):
                for thing in NOTHINGS + NO_PILES:
                    changed = piles[:n] + [thing] + piles[n + 1:]
                    self.refused(errors.NoPile, function, (2, 2, 2), *changed, *others)
                    self.refused(errors.NoBox, function, (2, 2, 0), *changed, *others)
            for box in NO_BOXES:
                self.refused(errors.NoBox, function, box, *piles, *others)

    def test_of_two_boxes_either_comes_ahead_of_both_piles(self):
        for box in NO_BOXES:
            for pile, other in [(PILE, LOWER), (PILE, None), (None, LOWER), ([], "")]:
                self.refused(errors.NoBox, alike_in_form, box, pile, (2, 2, 2), other)
                self.refused(errors.NoBox, alike_in_form, (2, 2, 2), pile, box, other)
                self.refused(errors.NoBox, alike_in_form, box, pile, box, other)

    def test_either_of_two_piles_in_two_boxes_may_be_none(self):
        for thing in NOTHINGS + NO_PILES:
            self.refused(errors.NoPile, alike_in_form, (2, 2, 2), thing, (1, 2, 1), [[1, 0]])
            self.refused(errors.NoPile, alike_in_form, (1, 2, 1), [[1, 0]], (2, 2, 2), thing)
            self.refused(errors.NoPile, alike_in_form, (2, 2, 2), thing, (2, 2, 2), thing)
        self.refused(errors.NoPile, alike_in_form, (1, 2, 1), [[1], [0]], (2, 1, 1), [[1], [0]])
        self.refused(errors.NoPile, alike_in_form, (1, 2, 1), [[1, 0]], (2, 1, 1), [[1, 0]])

    def test_too_many_and_no_text_stand_behind_no_box(self):
        for count in [how_many_even, how_many_whole, how_many_round]:
            self.refused(errors.TooMany, count, (6, 6, 6))
            self.refused(errors.NoBox, count, (60, 60, 0))
        self.refused(errors.NoText, read_pile, (2, 2, 2), "2 1/1 0/0 0")
        self.refused(errors.NoBox, read_pile, (2, 2, 0), "2 1/1 0/0 0")
        self.refused(errors.NoText, read_box, "2x2x0")

    def test_each_refusal_is_of_its_own_class(self):
        self.refused(errors.NoPile, pile_of_cubes, (1, 1, 1), [(1, 0, 0)])
        self.refused(errors.NoStairs, pile_of_stairs, (1, 1, 1), [[2]])
        self.refused(errors.NoWays, pile_of_ways, (1, 1, 1), ["rr"])


if __name__ == "__main__":
    unittest.main()
