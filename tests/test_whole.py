"""[2] and [4]: what is handed in and told stays one's own, and all forms of a pile lead into one another.

That no road is shorter, that the counts are one number, that numbers and piles lead to each other and that the shares
are those of all piles gone through is tested with each of these.
"""

import copy
import unittest

from cornerpiles.between import bounds_with, how_many_between, nth_between, number_between
from cornerpiles.counts import by_cubes, by_cubes_product, count_by_product, count_by_rows, count_by_ways
from cornerpiles.desk import Desk
from cornerpiles.forms import (alike_in_form, forms_of, how_many_even, how_many_round, how_many_whole, is_even,
                               is_round, is_whole)
from cornerpiles.moves import fewest_moved, lies_below, may_move, pile_above, pile_below, road_end, road_to
from cornerpiles.piles import (cubes_of, how_many_cubes, is_box, is_pile, mirrored_pile, pile_of_cubes, rest_of,
                               rolled_pile)
from cornerpiles.shares import cube_share, mean_cubes, mean_height
from cornerpiles.stairs import are_stairs, pile_of_stairs, stairs_of
from cornerpiles.texts import picture, read_box, read_pile, show_box, show_pile
from cornerpiles.ways import are_ways, never_touch, pile_of_ways, ways_of
from tests.helper import PILES_OF_SMALL_BOXES, SMALL_BOXES, all_piles, lists_within, spoil

BOX = (3, 2, 3)
PILE = [[2, 2], [2, 2], [0, 0]]
SAME_ROW = [1, 1]
SAME_ROWS = [SAME_ROW, SAME_ROW, SAME_ROW]
OTHER = [[3, 3], [2, 1], [1, 1]]
LOW = [[1, 1], [1, 0], [0, 0]]
HIGH = [[3, 3], [2, 2], [2, 2]]

QUESTIONS = [
    (is_box, (BOX,)),
    (is_box, ([1, 2, 3],)),
    (is_pile, (BOX, PILE)),
    (cubes_of, (BOX, PILE)),
    (how_many_cubes, (BOX, PILE)),
    (pile_of_cubes, (BOX, [(0, 1, 0), (0, 0, 0), (0, 1, 0)])),
    (pile_of_cubes, (BOX, [])),
    (mirrored_pile, (BOX, PILE)),
    (rolled_pile, (BOX, PILE)),
    (rest_of, (BOX, PILE)),
    (stairs_of, (BOX, PILE)),
    (are_stairs, (BOX, [[2, 2, 0], [2, 2, 0], [0, 0, 0]])),
    (pile_of_stairs, (BOX, [[2, 2, 0], [2, 2, 0], [0, 0, 0]])),
    (ways_of, (BOX, PILE)),
    (are_ways, (BOX, ["drrdd", "drrdd", "dddrr"])),
    (pile_of_ways, (BOX, ["drrdd", "drrdd", "dddrr"])),
    (never_touch, (BOX, ["drrdd", "drrdd", "dddrr"])),
    (cubes_of, (BOX, [SAME_ROW, SAME_ROW, SAME_ROW])),
    (mirrored_pile, (BOX, [SAME_ROW, SAME_ROW, SAME_ROW])),
    (rolled_pile, (BOX, [SAME_ROW, SAME_ROW, SAME_ROW])),
    (rest_of, (BOX, [SAME_ROW, SAME_ROW, SAME_ROW])),
    (stairs_of, (BOX, [SAME_ROW, SAME_ROW, SAME_ROW])),
    (pile_of_stairs, ((2, 2, 3), [SAME_ROW, SAME_ROW, SAME_ROW])),
    (may_move, (BOX, PILE)),
    (fewest_moved, (BOX, PILE, OTHER)),
    (road_end, (BOX, PILE, [])),
    (road_end, (BOX, PILE, [(1, 0, 0), (-1, 1, 1)])),
    (road_end, (BOX, SAME_ROWS, [])),
    (road_end, (BOX, SAME_ROWS, [(1, 0, 0), (1, 0, 0)])),
    (road_to, (BOX, PILE, OTHER)),
    (road_to, (BOX, PILE, PILE)),
    (road_to, (BOX, SAME_ROWS, PILE)),
    (pile_below, (BOX, PILE, OTHER)),
    (pile_below, (BOX, PILE, PILE)),
    (pile_below, (BOX, SAME_ROWS, SAME_ROWS)),
    (pile_below, (BOX, LOW, HIGH)),
    (pile_above, (BOX, PILE, OTHER)),
    (pile_above, (BOX, PILE, PILE)),
    (pile_above, (BOX, SAME_ROWS, SAME_ROWS)),
    (pile_above, (BOX, LOW, HIGH)),
    (lies_below, (BOX, LOW, HIGH)),
    (count_by_rows, (BOX,)),
    (count_by_ways, (BOX,)),
    (count_by_product, (BOX,)),
    (by_cubes, (BOX,)),
    (by_cubes, ((1, 1, 1),)),
    (by_cubes_product, (BOX,)),
    (by_cubes_product, ((1, 1, 1),)),
    (how_many_between, (BOX, LOW, HIGH)),
    (nth_between, (BOX, LOW, HIGH, 0)),
    (nth_between, (BOX, LOW, HIGH, 5)),
    (nth_between, (BOX, SAME_ROWS, SAME_ROWS, 0)),
    (nth_between, ((1, 2, 3), [[2, 1]], [[2, 1]], 0)),
    (number_between, (BOX, LOW, HIGH, PILE)),
    (number_between, (BOX, SAME_ROWS, SAME_ROWS, SAME_ROWS)),
    (bounds_with, (BOX, [])),
    (bounds_with, (BOX, [(0, 1, 2), (2, 0, 1), (0, 1, 2)])),
    (bounds_with, (BOX, [(2, 1, 3)])),
    (bounds_with, (BOX, [(0, 0, 1), (1, 0, 2)])),
    (cube_share, (BOX, LOW, HIGH, (1, 1, 0))),
    (mean_height, (BOX, LOW, HIGH, 1, 1)),
    (mean_cubes, (BOX, LOW, HIGH)),
    (is_even, ((2, 2, 2), [SAME_ROW, SAME_ROW])),
    (is_whole, ((2, 2, 2), [SAME_ROW, SAME_ROW])),
    (is_round, ((2, 2, 2), [SAME_ROW, SAME_ROW])),
    (how_many_even, ((2, 2, 3),)),
    (how_many_whole, ((2, 2, 3),)),
    (how_many_round, ((2, 2, 2),)),
    (forms_of, (BOX, PILE)),
    (forms_of, (BOX, SAME_ROWS)),
    (forms_of, ((2, 2, 2), [[0, 0], [0, 0]])),
    (forms_of, ((2, 2, 2), [SAME_ROW, SAME_ROW])),
    (forms_of, ((1, 1, 1), [[1]])),
    (alike_in_form, (BOX, PILE, (2, 3, 3), [[2, 2, 0], [2, 2, 0]])),
    (alike_in_form, (BOX, SAME_ROWS, BOX, SAME_ROWS)),
    (show_pile, (BOX, PILE)),
    (show_box, (BOX,)),
    (picture, (BOX, PILE)),
    (read_pile, (BOX, "3 3/3 3/3 3")),
    (read_pile, ((1, 1, 1), "0")),
    (read_box, ("3x2x3",)),
]

REFUSED = [
    (cubes_of, (BOX, [[1, 2], [0, 0], [0, 0]])),
    (pile_of_cubes, (BOX, [(0, 0, 0), (0, 0, 2)])),
    (pile_of_stairs, (BOX, [[1, 1, 2], [0, 0, 0], [0, 0, 0]])),
    (pile_of_ways, (BOX, ["dddrr", "drrdd", "drrdd"])),
    (rest_of, ([3, 2, 3], PILE)),
    (road_end, (BOX, PILE, [(1, 0, 0), (1, 0, 0)])),
    (road_end, (BOX, PILE, [(-1, 1, 1), (2, 0, 0)])),
    (nth_between, (BOX, LOW, HIGH, 10 ** 39)),
    (number_between, (BOX, LOW, PILE, OTHER)),
    (bounds_with, (BOX, [(0, 0, 4), (0, 0, 1)])),
    (bounds_with, (BOX, [(3, 0, 0), (0, 0, 1)])),
    (cube_share, (BOX, HIGH, LOW, (0, 0, 0))),
    (mean_height, (BOX, LOW, HIGH, 3, 0)),
    (how_many_even, ((6, 6, 6),)),
    (alike_in_form, (BOX, PILE, (2, 3, 3), PILE)),
    (forms_of, (BOX, [[2, 2], [2, 2]])),
    (read_pile, (BOX, "3 3/3 3")),
    (read_pile, (BOX, [[3, 3], [3, 3], [3, 3]])),
    (read_box, ([3, 2, 3],)),
]


class OnesOwn(unittest.TestCase):
    def test_what_is_handed_in_is_as_it_was(self):
        for function, arguments in QUESTIONS:
            with self.subTest(function.__name__):
                before = copy.deepcopy(arguments)
                function(*arguments)
                self.assertEqual(arguments, before)

    def test_what_is_refused_changes_nothing(self):
        for function, arguments in REFUSED:
            with self.subTest(function.__name__):
                before = copy.deepcopy(arguments)
                with self.assertRaises(ValueError):
                    function(*arguments)
                self.assertEqual(arguments, before)

    def test_no_two_lists_told_are_one_nor_one_handed_in(self):
        for function, arguments in QUESTIONS:
            with self.subTest(function.__name__):
                told = lists_within((function(*arguments), function(*arguments)))
                handed = {id(part) for part in lists_within(arguments)}
                self.assertEqual(len({id(part) for part in told}), len(told))
                self.assertFalse(any(id(part) in handed for part in told))

    def test_what_is_done_to_an_answer_changes_nothing(self):
        for function, arguments in QUESTIONS:
            with self.subTest(function.__name__):
                before = copy.deepcopy(arguments)
                answer = function(*arguments)
                kept = copy.deepcopy(answer)
                spoil(answer)
                self.assertEqual(arguments, before)
                self.assertEqual(function(*arguments), kept)

    def test_what_is_done_to_things_handed_in_changes_no_answer(self):
        for function, arguments in QUESTIONS:
            with self.subTest(function.__name__):
                handed = copy.deepcopy(arguments)
                answer = function(*handed)
                kept = copy.deepcopy(answer)
                for part in lists_within(handed):
                    part.clear()
                self.assertEqual(answer, kept)


class OneToOne(unittest.TestCase):
    def test_there_and_back(self):
        for box, many in zip(SMALL_BOXES, PILES_OF_SMALL_BOXES):
            piles = all_piles(box)
            self.assertEqual(len(piles), many)
            told = {}
            for pile in piles:
                cubes, stairs, ways = cubes_of(box, pile), stairs_of(box, pile), ways_of(box, pile)
                self.assertTrue(is_pile(box, pile) and are_stairs(box, stairs) and are_ways(box, ways))
                self.assertEqual(pile_of_cubes(box, cubes), pile)
                self.assertEqual(pile_of_stairs(box, stairs), pile)
                self.assertEqual(pile_of_ways(box, ways), pile)
                self.assertEqual(stairs_of(box, pile_of_ways(box, ways)), stairs)
                self.assertEqual(ways_of(box, pile_of_stairs(box, stairs)), ways)
                for form in ("cubes", cubes), ("stairs", stairs), ("ways", ways):
                    told[repr(form)] = pile
            self.assertEqual(len(told), 3 * many)

    def test_of_all_forms_and_texts_and_on_a_desk(self):
        for box in SMALL_BOXES:
            desk = Desk()
            desk.say("box " + show_box(box).replace("x", " "))
            self.assertEqual(desk.box_now(), read_box(show_box(box)))
            self.assertEqual(desk.say("many"), str(count_by_rows(box)))
            for number, pile in enumerate(all_piles(box)):
                self.assertEqual(read_pile(box, desk.say(f"nth {number}")), pile)
                self.assertEqual(desk.say("pile it " + show_pile(box, pile)), "ok")
                self.assertEqual(desk.say("number it"), str(number))
                self.assertEqual([desk.say(f"way it {k}") for k in range(box[2])], ways_of(box, pile))
                for form_box, form in forms_of(box, pile):
                    self.assertEqual(how_many_cubes(form_box, form), how_many_cubes(box, pile))
                    self.assertIs(alike_in_form(form_box, form, box, pile), True)

    def test_in_the_greatest_box(self):
        box = (6, 6, 6)
        pile = [[max(0, 6 - i - j) for j in range(6)] for i in range(6)]
        self.assertEqual(pile_of_cubes(box, cubes_of(box, pile)), pile)
        self.assertEqual(pile_of_stairs(box, stairs_of(box, pile)), pile)
        self.assertEqual(pile_of_ways(box, ways_of(box, pile)), pile)
        self.assertEqual(ways_of(box, pile)[0], "rdrdrdrdrdrd")
        self.assertEqual(how_many_cubes(box, pile), 56)


if __name__ == "__main__":
    unittest.main()
