"""[9], [10]: the ways of a pile, judged of anything, led back, and whether ways touch."""

import unittest
from itertools import combinations, product

from cornerpiles.errors import NoWays
from cornerpiles.ways import are_ways, never_touch, pile_of_ways, ways_of
from tests.helper import NOTHINGS, SMALL_BOXES, all_piles, with_self

BOX = (2, 3, 4)
PILE = [[4, 2, 1], [3, 2, 0]]
WAYS = ["rrdrd", "rrddr", "rddrr", "drdrr"]


def all_texts(a, b):
    return sorted("".join("d" if n in downs else "r" for n in range(a + b))
                  for downs in combinations(range(a + b), a))


def points(way, k):
    return {(way[:n].count("r") - k, way[:n].count("d") + k) for n in range(len(way) + 1)}


def all_apart(ways):
    return not any(points(ways[k], k) & points(ways[m], m) for k, m in combinations(range(len(ways)), 2))


class WaysOf(unittest.TestCase):
    def test_of_a_pile(self):
        self.assertEqual(ways_of(BOX, PILE), WAYS)

    def test_of_nothing_and_of_the_whole_box(self):
        self.assertEqual(ways_of(BOX, [[0, 0, 0], [0, 0, 0]]), ["ddrrr"] * 4)
        self.assertEqual(ways_of(BOX, [[4, 4, 4], [4, 4, 4]]), ["rrrdd"] * 4)

    def test_of_one_staircase(self):
        self.assertEqual(ways_of((3, 4, 1), [[1, 1, 1, 0], [1, 0, 0, 0], [0, 0, 0, 0]]), ["drdrrdr"])
        self.assertEqual(ways_of((1, 1, 1), [[0]]), ["dr"])
        self.assertEqual(ways_of((1, 1, 1), [[1]]), ["rd"])

    def test_of_all_piles_of_small_boxes(self):
        for box in SMALL_BOXES:
            told = []
            for pile in all_piles(box):
                ways = ways_of(box, pile)
                self.assertEqual(len(ways), box[2])
                self.assertTrue(all(way in all_texts(box[0], box[1]) for way in ways))
                self.assertIs(are_ways(box, ways), True)
                self.assertEqual(pile_of_ways(box, ways), pile)
                self.assertNotIn(ways, told)
                told.append(ways)


class AreWays(unittest.TestCase):
    def none(self, box, thing):
        with self.subTest(box=box):
            self.assertIs(are_ways(box, thing), False)
            with self.assertRaises(NoWays):
                pile_of_ways(box, thing)

    def test_ways(self):
        for ways in [WAYS, ["ddrrr"] * 4, ["rrrdd"] * 4, ["rrrdd", "rrrdd", "ddrrr", "ddrrr"]]:
            self.assertIs(are_ways(BOX, ways), True)

    def test_other_signs(self):
        for text in ["rrdrD", "Rrdrd", "rr rd", "rrd d", "rrdr\n", "rrdrx", "rr\tdr", "ullru", "12345", "     "]:
            self.none(BOX, [text] + WAYS[1:])
            self.none(BOX, WAYS[:3] + [text])
            self.none(BOX, [text] * 4)

    def test_another_sign_beside_a_whole_way(self):
        for text in ["rrdrd ", " rrdrd", "rrdrdx", "rrd,rd", "rrdrd\n"]:
            self.none(BOX, [text] + WAYS[1:])
            self.none((1, 1, 1), ["rdx"])

    def test_too_many_or_too_few_of_either(self):
        for text in ["", "r", "d", "rrrr", "rrdd", "rrrd", "rrrrdd", "rrrddd", "rrddd", "rrrrd", "rrdrdr", "drrdrd",
                     "ddddd", "rrrrr", "rd" * 1000]:
            self.none(BOX, [text] + WAYS[1:])
            self.none(BOX, [text] * 4)

    def test_rows_and_columns_are_not_changed_about(self):
        self.none((3, 2, 4), WAYS)

    def test_too_few_or_too_many_texts(self):
        for ways in [[], WAYS[:1], WAYS[:3], WAYS + ["ddrrr"], ["ddrrr"] * 1000]:
            self.none(BOX, ways)

    def test_things_that_are_no_text(self):
        for thing in [None, True, 0, 5, ["r", "r", "d", "r", "d"], ("r", "r", "d", "r", "d"), b"rrdrd", {}, object()]:
            self.none(BOX, [thing] + WAYS[1:])
            self.none(BOX, WAYS[:3] + [thing])
            self.none(BOX, [thing] * 4)

    def test_things_that_are_no_list(self):
        for thing in [tuple(WAYS), "".join(WAYS), dict(enumerate(WAYS)), {"ddrrr": 1}, set(WAYS), with_self(),
                      with_self() * 4] + NOTHINGS:
            self.none(BOX, thing)
            self.none((1, 1, 1), thing)
        self.none((1, 1, 2), "dr")

    def test_a_way_above_the_one_below(self):
        self.none(BOX, ["rrddr", "rrdrd", "rddrr", "drdrr"])
        self.none(BOX, ["rrdrd", "rrddr", "drdrr", "rddrr"])
        self.none((1, 1, 2), ["dr", "rd"])
        self.none((2, 2, 2), ["rddr", "drrd"])
        self.none((2, 2, 2), ["drrd", "rddr"])

    def test_anything_in_a_box_of_any_size(self):
        for thing in NOTHINGS + [["dr"], ["dr"] * 1000]:
            self.none((10 ** 39, 10 ** 39, 10 ** 39), thing)
            self.none((1, 1, 10 ** 39), thing)


class NeverTouch(unittest.TestCase):
    def test_of_none_and_of_one(self):
        self.assertIs(never_touch(BOX, []), True)
        for text in all_texts(2, 3):
            self.assertIs(never_touch(BOX, [text]), True)

    def test_ways_of_a_pile(self):
        self.assertIs(never_touch(BOX, WAYS), True)
        self.assertIs(never_touch(BOX, ["ddrrr"] * 4), True)

    def test_ways_that_touch(self):
        self.assertIs(never_touch((1, 1, 2), ["dr", "rd"]), False)
        self.assertIs(never_touch((2, 2, 2), ["drrd", "rddr"]), False)
        self.assertIs(never_touch((2, 2, 2), ["rrdd", "ddrr", "drdr"]), False)

    def test_fewer_and_more_than_the_box_is_high(self):
        self.assertIs(never_touch(BOX, WAYS[:2]), True)
        self.assertIs(never_touch(BOX, WAYS[1::-1]), False)
        self.assertIs(never_touch(BOX, WAYS + ["ddrrr"]), True)
        self.assertIs(never_touch(BOX, WAYS + ["rrrdd"]), False)
        self.assertIs(never_touch((6, 6, 1), ["rrrrrrdddddd"] * 1000), True)
        self.assertIs(never_touch((6, 6, 1), ["rrrrrdrddddd"] * 999 + ["rrrrrrdddddd"]), False)

    def test_other_things_in_their_place_are_refused(self):
        for thing in [None, "rrdrd", ("rrdrd",), ["rrdrdx"], ["xrdrd"], ["rrrrd"], ["rrddd"], [""], [None]]:
            with self.subTest(thing):
                with self.assertRaises(NoWays):
                    never_touch(BOX, thing)

    def test_any_list_of_such_texts(self):
        for box in [(1, 1, 1), (1, 2, 2), (2, 1, 2), (2, 2, 2), (2, 3, 3)]:
            texts = all_texts(box[0], box[1])
            for many in range(4):
                for ways in product(texts, repeat=many):
                    self.assertIs(never_touch(box, list(ways)), all_apart(ways))

    def test_just_those_that_never_touch_are_a_piles_ways(self):
        for box in SMALL_BOXES + [(2, 2, 3)]:
            told = [ways_of(box, pile) for pile in all_piles(box)]
            for ways in product(all_texts(box[0], box[1]), repeat=box[2]):
                apart = never_touch(box, list(ways))
                self.assertIs(apart, list(ways) in told)
                self.assertIs(are_ways(box, list(ways)), apart)


if __name__ == "__main__":
    unittest.main()
