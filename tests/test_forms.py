"""[19], [20]: even, whole and round piles, how many there are, and the forms of a pile.

All is judged by the cubes: a pile is found again as the set of its cubes, turned by the words of the document.
"""

import unittest
from fractions import Fraction
from itertools import permutations, product

from cornerpiles.errors import TooMany
from cornerpiles.forms import (alike_in_form, forms_of, how_many_even, how_many_round, how_many_whole, is_even,
                               is_round, is_whole)
from tests.helper import SMALL_BOXES, all_cubes, all_piles, empty_pile, full_pile, refusal_of

COUNTS = [how_many_even, how_many_whole, how_many_round]

BOXES = SMALL_BOXES + [(2, 1, 3), (2, 3, 1), (3, 3, 1), (1, 3, 3), (2, 2, 3), (3, 2, 3)]

ALL_BOXES = list(product(range(1, 8), repeat=3))


def cubes_in(pile):
    return frozenset((i, j, k) for i, row in enumerate(pile) for j, height in enumerate(row) for k in range(height))


def table_of(box, cubes):
    return [[sum((i, j, k) in cubes for k in range(box[2])) for j in range(box[1])] for i in range(box[0])]


def even_by_cubes(box, cubes):
    return box[0] == box[1] and all((j, i, k) in cubes for i, j, k in cubes)


def whole_by_cubes(box, cubes):
    a, b, c = box
    rest = {(a - 1 - i, b - 1 - j, c - 1 - k) for i, j, k in all_cubes(box) if (i, j, k) not in cubes}
    return rest == cubes


def round_by_cubes(box, cubes):
    return box[0] == box[1] == box[2] and all((j, k, i) in cubes for i, j, k in cubes)


BY_CUBES = [even_by_cubes, whole_by_cubes, round_by_cubes]


def nearer_by_one(cube):
    i, j, k = cube
    return [(i - 1, j, k), (i, j - 1, k), (i, j, k - 1)]


def all_sets_of_cubes(box):
    """All piles of a box, each as its cubes: found by putting on one cube after the other, from none on."""
    found = {frozenset()}
    last = found
    while last:
        last = {cubes | {cube} for cubes in last for cube in all_cubes(box)
                if cube not in cubes and all(near in cubes or min(near) < 0 for near in nearer_by_one(cube))}
        found = found | last
    return found


def how_many_piles(box):
    many = Fraction(1)
    for i, j, k in product(*[range(1, number + 1) for number in box]):
        many *= Fraction(i + j + k - 1, i + j + k - 2)
    return int(many)


# The products below stand in print, of piles in a box that are their own mirrored, rest and rolled pile.
def even_by_product(box):
    a, b, c = box
    many = Fraction(1)
    for i in range(1, a + 1):
        many *= Fraction(2 * i + c - 1, 2 * i - 1)
        for j in range(i + 1, a + 1):
            many *= Fraction(i + j + c - 1, i + j - 1)
    return many if a == b else 0


def whole_by_product(box):
    halves = [number // 2 for number in box]
    odd = [n for n in range(3) if box[n] % 2 == 1]
    if len(odd) == 3:
        return 0
    many = 1
    for ups in [odd[:1], odd[1:]]:
        half = [halves[n] + (n in ups) for n in range(3)]
        many *= how_many_piles(half)
    return many


def round_by_product(box):
    a = box[0]
    many = Fraction(1)
    for i in range(1, a + 1):
        many *= Fraction(3 * i - 1, 3 * i - 2)
        for j in range(i, a + 1):
            many *= Fraction(a + i + j - 1, 2 * i + j - 1)
    return many if box == (a, a, a) else 0


BY_PRODUCT = [even_by_product, whole_by_product, round_by_product]


def forms_by_cubes(box, pile):
    """Mirrored and rolled, the three numbers of a cube come into each of their six orders."""
    forms = []
    for order in permutations(range(3)):
        turned = tuple(box[n] for n in order)
        form = (turned, table_of(turned, {tuple(cube[n] for n in order) for cube in cubes_in(pile)}))
        if form not in forms:
            forms.append(form)
    return sorted(forms)


class OwnTurned(unittest.TestCase):
    def test_all_piles_of_small_boxes(self):
        for box in BOXES:
            for pile in all_piles(box):
                for judge, by_cubes in zip([is_even, is_whole, is_round], BY_CUBES):
                    with self.subTest(judge=judge.__name__, box=box, pile=pile):
                        self.assertIs(judge(box, pile), by_cubes(box, cubes_in(pile)))

    def test_even(self):
        self.assertIs(is_even((2, 2, 3), [[3, 1], [1, 0]]), True)
        self.assertIs(is_even((2, 2, 3), [[3, 1], [2, 0]]), False)
        self.assertIs(is_even((6, 6, 6), [[max(0, 6 - i - j) for j in range(6)] for i in range(6)]), True)

    def test_whole(self):
        self.assertIs(is_whole((1, 2, 3), [[3, 0]]), True)
        self.assertIs(is_whole((1, 2, 3), [[2, 1]]), True)
        self.assertIs(is_whole((1, 2, 3), [[3, 1]]), False)
        self.assertIs(is_whole((1, 1, 1), [[1]]), False)
        self.assertIs(is_whole((6, 5, 6), [[6] * 5] * 3 + [[0] * 5] * 3), True)

    def test_round(self):
        self.assertIs(is_round((3, 3, 3), [[3, 1, 1], [1, 0, 0], [1, 0, 0]]), True)
        self.assertIs(is_round((3, 3, 3), [[3, 2, 1], [1, 1, 0], [1, 0, 0]]), False)
        # Round, but not even.
        self.assertIs(is_round((3, 3, 3), [[3, 2, 2], [3, 1, 0], [1, 1, 0]]), True)
        self.assertIs(is_even((3, 3, 3), [[3, 2, 2], [3, 1, 0], [1, 1, 0]]), False)

    def test_of_other_boxes_false(self):
        for box in [(1, 2, 1), (2, 1, 2), (2, 3, 3), (3, 2, 6)]:
            for pile in [empty_pile(box), full_pile(box)]:
                self.assertIs(is_even(box, pile), False)
                self.assertIs(is_round(box, pile), False)
        for box in [(1, 1, 2), (2, 2, 3), (3, 3, 1), (1, 2, 2), (2, 1, 2)]:
            for pile in [empty_pile(box), full_pile(box)]:
                self.assertIs(is_even(box, pile), box[0] == box[1])
                self.assertIs(is_round(box, pile), False)


class HowMany(unittest.TestCase):
    def test_all_piles_of_small_boxes_gone_through(self):
        for box in BOXES + [(3, 3, 2), (2, 2, 4), (4, 2, 2), (3, 3, 3)]:
            piles = [cubes_in(pile) for pile in all_piles(box)]
            for count, by_cubes in zip(COUNTS, BY_CUBES):
                with self.subTest(count=count.__name__, box=box):
                    self.assertEqual(count(box), sum(by_cubes(box, cubes) for cubes in piles))

    def test_greater_boxes_gone_through_cube_by_cube(self):
        for box in [(4, 4, 1), (2, 4, 3), (2, 2, 6), (6, 2, 2), (5, 1, 4), (1, 5, 5), (6, 6, 1)]:
            piles = all_sets_of_cubes(box)
            self.assertEqual(len(piles), how_many_piles(box))
            for count, by_cubes in zip(COUNTS, BY_CUBES):
                with self.subTest(count=count.__name__, box=box):
                    self.assertEqual(count(box), sum(by_cubes(box, cubes) for cubes in piles))

    def test_by_the_products_in_print_or_too_many(self):
        for box in ALL_BOXES:
            for count, by_product in zip(COUNTS, BY_PRODUCT):
                with self.subTest(count=count.__name__, box=box):
                    if how_many_piles(box) > 3000:
                        self.assertIs(refusal_of(count, box), TooMany)
                    else:
                        self.assertEqual(count(box), by_product(box))

    def test_each_is_a_whole_number(self):
        for box in [(1, 1, 1), (2, 2, 2), (1, 2, 3), (3, 2, 1)]:
            self.assertEqual([type(count(box)) for count in COUNTS], [int] * 3)

    def test_small_numbers_by_hand(self):
        self.assertEqual([count((1, 1, 1)) for count in COUNTS], [2, 0, 2])
        self.assertEqual([count((2, 2, 2)) for count in COUNTS], [10, 4, 5])
        self.assertEqual([count((3, 3, 3)) for count in COUNTS], [112, 0, 20])

    def test_three_thousand_piles_are_not_too_many(self):
        self.assertEqual([count((1, 1, 2999)) for count in COUNTS], [3000, 0, 0])
        self.assertEqual([count((1, 1, 2998)) for count in COUNTS], [2999, 1, 0])
        for box in [(1, 2999, 1), (2999, 1, 1)]:
            self.assertEqual([count(box) for count in COUNTS], [0, 0, 0])

    def test_just_above_three_thousand_piles(self):
        # 3001 and 3003 piles.
        for box in [(1, 1, 3000), (1, 3000, 1), (3000, 1, 1), (1, 2, 76), (76, 1, 2), (2, 76, 1)]:
            for count in COUNTS:
                with self.subTest(count=count.__name__, box=box):
                    self.assertIs(refusal_of(count, box), TooMany)

    def test_too_many_whatever_the_numbers(self):
        boxes = [(3, 3, 4), (3, 4, 3), (4, 3, 3), (1, 7, 7), (2, 4, 5), (5, 2, 4), (2, 3, 7), (6, 6, 6), (6, 5, 4),
                 (5, 5, 5), (10 ** 39, 1, 1), (1, 10 ** 39, 1), (1, 1, 10 ** 39), (10 ** 39,) * 3]
        for box in boxes:
            for count in COUNTS:
                with self.subTest(count=count.__name__, box=box):
                    self.assertIs(refusal_of(count, box), TooMany)

    def test_of_other_boxes_none(self):
        for box in [(1, 2, 1), (2, 3, 6), (6, 2, 3), (4, 2, 4), (75, 2, 1), (2, 75, 1)]:
            self.assertEqual(how_many_even(box), 0)
            self.assertEqual(how_many_round(box), 0)
        for box in [(2, 2, 3), (4, 4, 1), (1, 1, 2)]:
            self.assertEqual(how_many_round(box), 0)
            self.assertGreater(how_many_even(box), 0)
        for box in [(1, 3, 5), (3, 1, 1), (3, 3, 3)]:
            self.assertEqual(how_many_whole(box), 0)


class Forms(unittest.TestCase):
    def test_all_piles_of_small_boxes(self):
        for box in BOXES:
            for pile in all_piles(box):
                with self.subTest(box=box, pile=pile):
                    self.assertEqual(forms_of(box, pile), forms_by_cubes(box, pile))

    def test_six_unlike_ones_in_order(self):
        forms = [((1, 2, 3), [[2, 1]]), ((1, 3, 2), [[2, 1, 0]]), ((2, 1, 3), [[2], [1]]),
                 ((2, 3, 1), [[1, 1, 0], [1, 0, 0]]), ((3, 1, 2), [[2], [1], [0]]),
                 ((3, 2, 1), [[1, 1], [1, 0], [0, 0]])]
        for box, pile in forms:
            self.assertEqual(forms_of(box, pile), forms)

    def test_of_one_box_they_are_sorted_by_the_piles(self):
        forms = forms_of((3, 3, 3), [[3, 2, 0], [1, 0, 0], [0, 0, 0]])
        self.assertEqual([box for box, pile in forms], [(3, 3, 3)] * 6)
        self.assertEqual(forms, forms_by_cubes((3, 3, 3), [[3, 2, 0], [1, 0, 0], [0, 0, 0]]))
        self.assertTrue(all(one[1] < other[1] for one, other in zip(forms, forms[1:])))

    def test_fewer_where_some_are_alike(self):
        box = (3, 3, 3)
        self.assertEqual(forms_of(box, [[0] * 3] * 3), [(box, [[0] * 3] * 3)])
        self.assertEqual(len(forms_of(box, [[3, 2, 2], [3, 1, 0], [1, 1, 0]])), 2)
        self.assertEqual(len(forms_of(box, [[3, 0, 0], [0, 0, 0], [0, 0, 0]])), 3)

    def test_tuples_in_a_list(self):
        forms = forms_of((1, 2, 1), [[1, 0]])
        self.assertIs(type(forms), list)
        for form in forms:
            self.assertEqual([type(form), len(form), type(form[0]), type(form[1])], [tuple, 2, tuple, list])

    def test_in_the_greatest_box(self):
        box = (6, 5, 4)
        pile = [[max(0, 4 - (i + j) // 2) for j in range(5)] for i in range(6)]
        self.assertEqual(forms_of(box, pile), forms_by_cubes(box, pile))


class AlikeInForm(unittest.TestCase):
    def test_all_pairs_of_piles_both_ways(self):
        boxes = [(1, 1, 1), (1, 1, 2), (1, 2, 1), (2, 1, 1), (1, 2, 2), (2, 2, 1), (2, 1, 2), (1, 2, 3), (3, 1, 2),
                 (2, 1, 3), (2, 2, 2)]
        forms = [(box, pile) for box in boxes for pile in all_piles(box)]
        for box, pile in forms:
            turned = forms_by_cubes(box, pile)
            for other_box, other in forms:
                alike = (other_box, other) in turned
                self.assertIs(alike_in_form(box, pile, other_box, other), alike)
                self.assertIs(alike_in_form(other_box, other, box, pile), alike)

    def test_the_same_cubes_in_another_box_are_not_alike(self):
        self.assertIs(alike_in_form((1, 1, 1), [[1]], (1, 1, 2), [[1]]), False)
        self.assertIs(alike_in_form((1, 2, 3), [[2, 1]], (2, 2, 3), [[2, 1], [0, 0]]), False)


if __name__ == "__main__":
    unittest.main()
