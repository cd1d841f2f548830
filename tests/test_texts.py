"""[21], [22]: piles and boxes written and read back, and pictures of piles."""

import unittest
from itertools import product

from cornerpiles.errors import NoText
from cornerpiles.texts import picture, read_box, read_pile, show_box, show_pile
from tests.helper import NO_BOXES, NOTHINGS, SMALL_BOXES, all_piles, empty_pile, full_pile, refusal_of, with_self

SIGNS = "0123459 /x.,-+_ad\n\t\r\v\x00\xa0\u0663\u00b2\u2028"

# Boxes with heights of one figure and of two.
BOXES = SMALL_BOXES + [(2, 2, 3), (1, 1, 12), (1, 2, 11), (2, 1, 10)]


class SubText(str):
    pass


def writings_of(box):
    """Each pile of a box by its writing, told sign by sign."""
    found = {}
    for pile in all_piles(box):
        text = ""
        for i, row in enumerate(pile):
            for j, height in enumerate(row):
                text += "/" if i > 0 and j == 0 else " " if j > 0 else ""
                text += "{:d}".format(height)
        found[text] = pile
    return found


def changed_by_a_sign(text):
    changed = [text[:n] + text[n + 1:] for n in range(len(text))]
    for sign in SIGNS:
        changed += [text[:n] + sign + text[n:] for n in range(len(text) + 1)]
        changed += [text[:n] + sign + text[n + 1:] for n in range(len(text))]
    return changed


class PilesWritten(unittest.TestCase):
    def none(self, box, thing):
        with self.subTest(box=box):
            self.assertIs(refusal_of(read_pile, box, thing), NoText, repr(thing))

    def test_by_hand(self):
        self.assertEqual(show_pile((2, 3, 12), [[12, 10, 9], [3, 0, 0]]), "12 10 9/3 0 0")
        self.assertEqual(read_pile((2, 3, 12), "12 10 9/3 0 0"), [[12, 10, 9], [3, 0, 0]])
        self.assertEqual(show_pile((1, 1, 1), [[0]]), "0")
        self.assertEqual(show_pile((3, 1, 2), [[2], [1], [0]]), "2/1/0")
        self.assertEqual(show_pile((1, 3, 2), [[2, 1, 0]]), "2 1 0")
        self.assertEqual(show_pile((1, 1, 99), [[99]]), "99")
        self.assertEqual(read_pile((1, 1, 99), "99"), [[99]])

    def test_each_pile_has_one_writing_that_is_read_back(self):
        for box in BOXES:
            for text, pile in writings_of(box).items():
                self.assertEqual(show_pile(box, pile), text)
                self.assertEqual(read_pile(box, text), pile)
                self.assertEqual([type(row) for row in read_pile(box, text)], [list] * box[0])

    def test_every_height_up_to_ninety_nine(self):
        for height in range(100):
            self.assertEqual(show_pile((1, 1, 99), [[height]]), f"{height}")
            self.assertEqual(read_pile((1, 1, 99), f"{height}"), [[height]])

    def test_in_a_box_of_six_rows_and_columns(self):
        box = (6, 6, 99)
        pile = [[99 - 9 * i - 7 * j for j in range(6)] for i in range(6)]
        self.assertEqual(read_pile(box, show_pile(box, pile)), pile)
        self.assertEqual(show_pile(box, pile)[:21], "99 92 85 78 71 64/90 ")

    def test_texts_that_differ_by_a_sign(self):
        for box in [(1, 1, 1), (2, 2, 1), (1, 2, 3), (2, 1, 10), (1, 1, 12)]:
            writings = writings_of(box)
            for text in writings:
                for other in changed_by_a_sign(text):
                    if other in writings:
                        self.assertEqual(read_pile(box, other), writings[other])
                    else:
                        self.none(box, other)

    def test_every_text_of_a_few_signs(self):
        for box in [(1, 2, 1), (2, 1, 2), (1, 1, 11)]:
            writings = writings_of(box)
            for length in range(5):
                for signs in product("012 /", repeat=length):
                    text = "".join(signs)
                    if text in writings:
                        self.assertEqual(read_pile(box, text), writings[text])
                    else:
                        self.none(box, text)

    def test_a_nought_ahead(self):
        for text in ["02 1/1 0", "2 01/1 0", "2 1/1 00", "002 1/1 0", "00 0/0 0"]:
            self.none((2, 2, 2), text)

    def test_a_row_or_a_height_more_or_less(self):
        for text in ["2 1", "2 1/1 0/0 0", "2 1/1", "2/1 0", "2 1 0/1 0 0", "2 1/1 0 0", "2 1 0/1 0", "2", ""]:
            self.none((2, 2, 2), text)

    def test_blanks_and_line_feeds(self):
        for text in [" 2 1/1 0", "2 1/1 0 ", "2  1/1 0", "2 1 /1 0", "2 1/ 1 0", "2 1/1 0\n", "\n2 1/1 0", "2 1\n1 0",
                     "2\t1/1 0", "2 1//1 0", "/2 1/1 0", "2 1/1 0/", "2,1/1,0", "2 1/1 -0", "+2 1/1 0", "2_1/1 0"]:
            self.none((2, 2, 2), text)

    def test_tables_that_are_no_pile_of_the_box(self):
        for text in ["1 2/1 0", "2 1/1 2", "1 1/2 0", "3 1/1 0", "2 0/1 1", "9 9/9 9", "10 0/0 0", "1000000 1/1 0"]:
            self.none((2, 2, 2), text)
        self.none((1, 1, 99), "100")
        self.none((1, 1, 1000), "100")

    def test_the_writing_of_another_box(self):
        self.none((3, 2, 2), "1 1 1/1 1 1")
        self.none((10 ** 39, 10 ** 39, 10 ** 39), "1 1/1 1")

    def test_what_is_no_text(self):
        for thing in NOTHINGS + NO_BOXES + [with_self(), [[2, 1], [1, 0]], ["2 1", "1 0"], b"2 1/1 0", ("2 1/1 0",)]:
            self.none((2, 2, 2), thing)

    def test_a_text_of_a_class_under_text_is_one(self):
        self.assertEqual(read_pile((1, 2, 2), SubText("2 1")), [[2, 1]])

    def test_long_texts(self):
        for text in ["1" * 2000, "0 " * 1000, "0/" * 1000, " " * 2000, "/" * 2000]:
            self.none((2, 2, 2), text)


class BoxesWritten(unittest.TestCase):
    def none(self, thing):
        with self.subTest(repr(thing)):
            self.assertIs(refusal_of(read_box, thing), NoText)

    def test_all_boxes_of_some_numbers(self):
        for box in product([1, 2, 6, 9, 10, 11, 20, 99], repeat=3):
            text = "{:d}x{:d}x{:d}".format(*box)
            self.assertEqual(show_box(box), text)
            self.assertEqual(read_box(text), box)
            self.assertIs(type(read_box(text)), tuple)

    def test_every_number_up_to_ninety_nine(self):
        for number in range(1, 100):
            self.assertEqual(show_box((number, 1, number)), f"{number}x1x{number}")
            self.assertEqual(read_box(f"1x{number}x1"), (1, number, 1))

    def test_texts_that_differ_by_a_sign(self):
        numbers = [str(number) for number in range(1, 100)]
        for text in ["1x1x1", "6x5x4", "10x2x30"]:
            for other in changed_by_a_sign(text):
                parts = other.split("x")
                if len(parts) == 3 and all(part in numbers for part in parts):
                    self.assertEqual(read_box(other), tuple(int(part) for part in parts))
                    self.assertEqual(show_box(read_box(other)), other)
                else:
                    self.none(other)

    def test_texts_that_write_none(self):
        for text in ["", "x", "xx", "1", "1x1", "1x1x1x1", "0x1x1", "1x0x1", "1x1x0", "01x1x1", "1x1x00", "100x1x1",
                     "1x1x100", "1 x1x1", "1x1x1 ", " 1x1x1", "1x1x1\n", "1X1X1", "1*1*1", "1 1 1", "-1x1x1",
                     "+1x1x1", "1xx1", "1x1x", "x1x1", "(1, 1, 1)", "axbxc", "1x1x\u0661", "1x1x\u00b9", "1_0x1x1"]:
            self.none(text)

    def test_what_is_no_text(self):
        for thing in NOTHINGS + [(1, 1, 1), [1, 1, 1], ("1x1x1",), ["1x1x1"], b"1x1x1", with_self(), 111]:
            self.none(thing)


class Pictures(unittest.TestCase):
    def test_by_hand(self):
        self.assertEqual(picture((2, 3, 12), [[12, 10, 9], [3, 1, 0]]), "ca9\n31.")
        self.assertEqual(picture((1, 1, 1), [[0]]), ".")
        self.assertEqual(picture((3, 1, 2), [[2], [1], [0]]), "2\n1\n.")
        self.assertEqual(picture((2, 2, 2), [[0, 0], [0, 0]]), "..\n..")

    def test_every_height_up_to_thirty_five(self):
        signs = ".123456789abcdefghijklmnopqrstuvwxyz"
        for height in range(36):
            self.assertEqual(picture((1, 1, 35), [[height]]), signs[height])
            self.assertEqual(picture((1, 1, 99), [[height]]), signs[height])

    def test_as_many_lines_as_rows_and_signs_as_columns(self):
        for box in SMALL_BOXES + [(6, 6, 35), (2, 6, 10), (6, 2, 36)]:
            for pile in [empty_pile(box), [[min(box[2], 35)] * box[1] for i in range(box[0])]]:
                lines = picture(box, pile).split("\n")
                self.assertEqual([len(line) for line in lines], [box[1]] * box[0])

    def test_all_piles_of_small_boxes(self):
        for box in BOXES:
            told = set()
            for pile in all_piles(box):
                text = picture(box, pile)
                told.add(text)
                read = [[0 if sign == "." else int(sign, 36) for sign in line] for line in text.split("\n")]
                self.assertEqual(read, pile)
            self.assertEqual(len(told), len(all_piles(box)))

    def test_full_boxes(self):
        self.assertEqual(picture((2, 2, 35), full_pile((2, 2, 35))), "zz\nzz")
        self.assertEqual(picture((2, 2, 10), full_pile((2, 2, 10))), "aa\naa")


if __name__ == "__main__":
    unittest.main()
