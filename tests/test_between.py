"""[16], [17]: the piles between a low and a high one by their numbers, and bounds of piles with told heights."""

import unittest
from itertools import combinations_with_replacement, product

from cornerpiles.between import bounds_with, how_many_between, nth_between, number_between
from cornerpiles.errors import NoNumber, NoPlace
from cornerpiles.piles import is_pile
from tests.helper import (SMALL_BOXES, all_piles, all_places, below, empty_pile, full_pile, piles_between,
                          refusal_of)

BOX = (2, 3, 4)
LOW = [[2, 1, 0], [1, 0, 0]]
HIGH = [[4, 2, 1], [3, 2, 1]]

GREAT = (6, 6, 6)
GREAT_LOW = [[max(0, 3 - i - j) for j in range(6)] for i in range(6)]
GREAT_HIGH = [[min(6, 10 - i - j) for j in range(6)] for i in range(6)]
PILES_OF_GREAT = 1478619421136


def next_pile(box, pile):
    """The pile behind this one in the order of lists: the last height that can grow does, all behind it are 0."""
    for i, j in reversed(all_places(box)):
        most = min(pile[i - 1][j] if i else box[2], pile[i][j - 1] if j else box[2])
        if pile[i][j] < most:
            return [[pile[m][n] + ((m, n) == (i, j)) if (m, n) <= (i, j) else 0 for n in range(box[1])]
                    for m in range(box[0])]
    return None


class Between(unittest.TestCase):
    def check(self, box, low, high, piles):
        self.assertEqual(how_many_between(box, low, high), len(piles))
        for n, pile in enumerate(piles):
            self.assertEqual(nth_between(box, low, high, n), pile)
            self.assertEqual(number_between(box, low, high, pile), n)
        for number in [-1, len(piles), len(piles) + 1, 10 ** 39, -10 ** 39]:
            self.assertIs(refusal_of(nth_between, box, low, high, number), NoNumber)

    def test_of_two_piles(self):
        self.check(BOX, LOW, HIGH, piles_between(all_piles(BOX), LOW, HIGH))
        self.check((1, 2, 2), [[1, 0]], [[2, 1]], [[[1, 0]], [[1, 1]], [[2, 0]], [[2, 1]]])

    def test_of_all_two_piles_of_small_boxes(self):
        for box in [(1, 1, 3), (1, 3, 1), (3, 1, 1), (1, 2, 3), (3, 2, 1), (2, 2, 2)]:
            piles = sorted(all_piles(box))
            for low, high in product(piles, piles):
                between = piles_between(piles, low, high)
                self.check(box, low, high, between)
                for pile in piles:
                    if pile not in between:
                        self.assertIs(refusal_of(number_between, box, low, high, pile), NoPlace)

    def test_all_piles_of_a_box_in_order(self):
        for box in SMALL_BOXES + [(3, 3, 2), (2, 3, 3), (4, 2, 2), (2, 4, 2)]:
            self.check(box, empty_pile(box), full_pile(box), sorted(all_piles(box)))

    def test_kinds(self):
        self.assertIs(type(how_many_between(BOX, LOW, HIGH)), int)
        self.assertIs(type(number_between(BOX, LOW, HIGH, HIGH)), int)
        pile = nth_between(BOX, LOW, HIGH, 3)
        self.assertIs(type(pile), list)
        self.assertEqual([type(row) for row in pile], [list, list])

    def test_none_between_where_low_does_not_lie_below(self):
        for low, high in [(HIGH, LOW), ([[2, 2, 0], [2, 0, 0]], [[3, 1, 1], [2, 1, 1]])]:
            self.assertEqual(how_many_between(BOX, low, high), 0)
            for number in [0, 1, -1]:
                self.assertIs(refusal_of(nth_between, BOX, low, high, number), NoNumber)
            for pile in [LOW, HIGH, empty_pile(BOX), full_pile(BOX), low, high]:
                self.assertIs(refusal_of(number_between, BOX, low, high, pile), NoPlace)

    def test_one_alone(self):
        self.check(BOX, LOW, LOW, [LOW])
        self.check(GREAT, GREAT_LOW, GREAT_LOW, [GREAT_LOW])

    def test_in_the_greatest_box(self):
        low, high = empty_pile(GREAT), full_pile(GREAT)
        self.assertEqual(how_many_between(GREAT, low, high), PILES_OF_GREAT)
        numbers = [0, 1, 2, 6, 7, 1000, 10 ** 6, 10 ** 9, 10 ** 12, PILES_OF_GREAT // 2, PILES_OF_GREAT - 2,
                   PILES_OF_GREAT - 1]
        numbers = sorted(numbers + [n * PILES_OF_GREAT // 17 for n in range(1, 17)])
        self.lead_to_each_other(low, high, numbers)
        self.assertEqual(nth_between(GREAT, low, high, 0), low)
        self.assertEqual(nth_between(GREAT, low, high, PILES_OF_GREAT - 1), high)
        self.assertIs(refusal_of(nth_between, GREAT, low, high, PILES_OF_GREAT), NoNumber)

    def test_between_two_of_the_greatest_box(self):
        many = how_many_between(GREAT, GREAT_LOW, GREAT_HIGH)
        self.assertTrue(10 ** 9 < many < PILES_OF_GREAT)
        self.lead_to_each_other(GREAT_LOW, GREAT_HIGH, [0, 1] + [n * many // 13 for n in range(1, 13)] + [many - 1])
        self.assertEqual(nth_between(GREAT, GREAT_LOW, GREAT_HIGH, 0), GREAT_LOW)
        self.assertEqual(nth_between(GREAT, GREAT_LOW, GREAT_HIGH, many - 1), GREAT_HIGH)
        self.assertIs(refusal_of(nth_between, GREAT, GREAT_LOW, GREAT_HIGH, many), NoNumber)

    def lead_to_each_other(self, low, high, numbers):
        told = []
        for number in numbers:
            pile = nth_between(GREAT, low, high, number)
            self.assertIs(is_pile(GREAT, pile), True)
            self.assertTrue(below(low, pile) and below(pile, high))
            self.assertEqual(number_between(GREAT, low, high, pile), number)
            told.append(pile)
        self.assertEqual(told, sorted(told))

    def test_numbers_side_by_side_in_the_greatest_box(self):
        low, high = empty_pile(GREAT), full_pile(GREAT)
        for start in [0, 10 ** 11, PILES_OF_GREAT - 25]:
            pile = nth_between(GREAT, low, high, start)
            for number in range(start + 1, start + 25):
                pile = next_pile(GREAT, pile)
                self.assertEqual(nth_between(GREAT, low, high, number), pile)
                self.assertEqual(number_between(GREAT, low, high, pile), number)


def with_heights(piles, heights):
    return [pile for pile in piles if all(pile[i][j] == height for i, j, height in heights)]


class Bounds(unittest.TestCase):
    def check(self, box, piles, heights):
        told = bounds_with(box, heights)
        those = with_heights(piles, heights)
        if not those:
            self.assertIsNone(told, heights)
            return
        self.assertIs(type(told), tuple)
        low, high = told
        self.assertIn(low, those)
        self.assertIn(high, those)
        self.assertEqual(piles_between(piles, low, high), those)
        self.assertEqual(how_many_between(box, low, high), len(those))

    def test_some(self):
        self.assertEqual(bounds_with(BOX, [(0, 1, 3), (1, 1, 1)]), ([[3, 3, 0], [1, 1, 0]], [[4, 3, 3], [4, 1, 1]]))
        self.assertEqual(bounds_with(BOX, [(1, 2, 4)]), (full_pile(BOX), full_pile(BOX)))
        self.assertEqual(bounds_with(BOX, [(0, 0, 0)]), (empty_pile(BOX), empty_pile(BOX)))

    def test_no_heights_at_all(self):
        self.assertEqual(bounds_with(BOX, []), (empty_pile(BOX), full_pile(BOX)))

    def test_up_to_three_heights_of_small_boxes(self):
        for box in [(1, 1, 2), (1, 3, 1), (3, 1, 1), (1, 2, 2), (2, 1, 2), (2, 2, 1), (2, 2, 2)]:
            piles = all_piles(box)
            every = [(i, j, height) for i, j in all_places(box) for height in range(box[2] + 1)]
            for many in range(4):
                for heights in combinations_with_replacement(every, many):
                    self.check(box, piles, list(heights))
                    self.check(box, piles, list(reversed(heights)))

    def test_two_heights_of_a_greater_box(self):
        piles = all_piles((3, 3, 2))
        every = [(i, j, height) for i, j in all_places((3, 3, 2)) for height in range(3)]
        for heights in product(every, repeat=2):
            self.check((3, 3, 2), piles, list(heights))

    def test_all_heights_of_a_pile(self):
        for pile in all_piles((2, 3, 2)):
            heights = [(i, j, pile[i][j]) for i, j in all_places((2, 3, 2))]
            self.assertEqual(bounds_with((2, 3, 2), heights), (pile, pile))
            self.assertEqual(bounds_with((2, 3, 2), heights[::-1] * 3), (pile, pile))

    def test_a_place_twice(self):
        self.assertEqual(bounds_with((1, 1, 4), [(0, 0, 3), (0, 0, 3)]), ([[3]], [[3]]))
        self.assertIsNone(bounds_with((1, 1, 4), [(0, 0, 3), (0, 0, 2)]))
        self.assertIsNone(bounds_with((1, 1, 4), [(0, 0, 2), (0, 0, 3)]))

    def test_heights_that_none_has_at_once(self):
        self.assertIsNone(bounds_with(BOX, [(0, 0, 1), (0, 1, 2)]))
        self.assertIsNone(bounds_with(BOX, [(1, 2, 2), (0, 0, 1)]))
        self.assertIsNotNone(bounds_with(BOX, [(0, 2, 4), (1, 0, 0)]))

    def test_no_place(self):
        for place in [(-1, 0), (0, -1), (2, 0), (0, 3), (-2, -3), (10 ** 39, 0), (0, -10 ** 39)]:
            self.assertIs(refusal_of(bounds_with, BOX, [place + (1,)]), NoPlace)
            self.assertIs(refusal_of(bounds_with, BOX, [(0, 0, 1), place + (1,), (1, 1, 1)]), NoPlace)
        self.assertIs(refusal_of(bounds_with, (10 ** 39, 10 ** 39, 10 ** 39), [(-1, 0, 0)]), NoPlace)

    def test_no_number(self):
        for height in [-1, 5, 10 ** 39, -10 ** 39]:
            self.assertIs(refusal_of(bounds_with, BOX, [(0, 0, height)]), NoNumber)
            self.assertIs(refusal_of(bounds_with, BOX, [(0, 0, 1), (1, 1, height), (1, 1, 1)]), NoNumber)
        self.assertIs(refusal_of(bounds_with, (10 ** 39, 10 ** 39, 10 ** 39), [(0, 0, -1)]), NoNumber)

    def test_no_place_wherever_it_stands_is_ahead_of_no_number(self):
        for heights in [[(0, 0, 5), (2, 0, 1)], [(2, 0, 1), (0, 0, 5)], [(2, 0, 5)],
                        [(0, 0, -1), (0, 0, 5), (0, -1, 0)], [(0, 0, 5)] * 999 + [(0, 3, 1)]]:
            self.assertIs(refusal_of(bounds_with, BOX, heights), NoPlace)

    def test_refused_ahead_of_none(self):
        unlike = [(0, 0, 1), (0, 0, 2)]
        self.assertIs(refusal_of(bounds_with, BOX, unlike + [(0, 0, 5)]), NoNumber)
        self.assertIs(refusal_of(bounds_with, BOX, unlike + [(2, 0, 0)]), NoPlace)

    def test_in_the_greatest_box(self):
        low, high = bounds_with(GREAT, [(2, 2, 3)] * 1000)
        self.assertEqual(low, [[3] * 3 + [0] * 3] * 3 + [[0] * 6] * 3)
        self.assertEqual(high, [[6] * 6] * 2 + [[6, 6, 3, 3, 3, 3]] * 4)


if __name__ == "__main__":
    unittest.main()
