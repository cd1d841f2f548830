"""[23], [24]: each row of the desk, its answer, its refusals and their order."""

import copy
import unittest
from itertools import product

from cornerpiles.desk import Desk
from cornerpiles.errors import NoBox, NoName, NoNumber, NoPile, NoPlace, NoRow, NoText
from tests.helper import NO_BOXES, NOTHINGS, all_piles, refusal_of, with_self

# One row of each form, all of which a desk made by desk_with answers.
ROWS = ["box 2 3 4", "pile new 1 1/0 0", "put low 0 0", "take high 1 1", "above new low high", "below new low high",
        "rest new low", "drop low", "show low", "cubes low", "far low high", "many", "many low high", "number low",
        "nth 3", "share 0 1 1", "way low 1", "names"]

# Rows in which a name stands that must stand for a pile, and how many of these names there are, the last ones.
NEEDING_NAMES = [("put {} 0 0", 1), ("take {} 0 0", 1), ("above new {} {}", 2), ("below new {} {}", 2),
                 ("rest new {}", 1), ("drop {}", 1), ("show {}", 1), ("cubes {}", 1), ("far {} {}", 2),
                 ("many {} {}", 2), ("number {}", 1), ("way {} 0", 1)]


def desk_with(*rows):
    desk = Desk()
    for row in rows:
        desk.say(row)
    return desk


def usual_desk():
    return desk_with("box 2 2 3", "pile low 1 1/0 0", "pile high 3 2/2 1")


def state_of(desk):
    """All that a desk tells of itself."""
    return (desk.box_now(), desk.names(), [desk.say("show " + name) for name in desk.names()])


class Case(unittest.TestCase):
    def says(self, desk, row, answer):
        with self.subTest(row):
            told = desk.say(row)
            self.assertIs(type(told), str)
            self.assertEqual(told, answer)

    def refused(self, desk, row, refusal):
        with self.subTest(repr(row)):
            before = state_of(desk)
            self.assertIs(refusal_of(desk.say, row), refusal)
            self.assertEqual(state_of(desk), before)


class AtFirst(Case):
    def test_a_box_of_one_cube_and_no_names(self):
        desk = Desk()
        self.assertEqual(desk.box_now(), (1, 1, 1))
        self.assertIs(type(desk.box_now()), tuple)
        self.assertEqual(desk.names(), [])
        self.says(desk, "names", "none")
        self.says(desk, "many", "2")
        self.says(desk, "share 0 0 0", "1/2")
        self.says(desk, "nth 0", "0")
        self.says(desk, "nth 1", "1")
        self.says(desk, "pile a 1", "ok")
        self.says(desk, "show a", "1")


class Told(Case):
    def test_box(self):
        for numbers in [(1, 1, 1), (6, 6, 6), (1, 2, 3), (6, 1, 5)]:
            desk = usual_desk()
            self.says(desk, "box {} {} {}".format(*numbers), "ok")
            self.assertEqual(desk.box_now(), numbers)
            self.assertIs(type(desk.box_now()), tuple)

    def test_names_are_forgotten_with_the_box(self):
        for row in ["box 2 2 3", "box 3 3 3", "box 1 1 1"]:
            desk = usual_desk()
            self.says(desk, row, "ok")
            self.assertEqual(desk.names(), [])
            self.says(desk, "names", "none")
            self.refused(desk, "show low", NoName)

    def test_pile(self):
        desk = usual_desk()
        self.says(desk, "pile c 3 1/1 0", "ok")
        self.says(desk, "show c", "3 1/1 0")
        self.says(desk, "show low", "1 1/0 0")

    def test_pile_in_the_place_of_what_stood_there(self):
        desk = usual_desk()
        self.says(desk, "pile low 2 2/2 2", "ok")
        self.says(desk, "show low", "2 2/2 2")
        self.assertEqual(desk.names(), ["high", "low"])

    def test_every_pile_of_a_box(self):
        desk = desk_with("box 2 2 3")
        for pile in all_piles((2, 2, 3)):
            text = "/".join(" ".join(map(str, row)) for row in pile)
            self.says(desk, "pile it " + text, "ok")
            self.says(desk, "show it", text)
            self.says(desk, "cubes it", str(sum(map(sum, pile))))

    def test_put_and_take(self):
        desk = usual_desk()
        self.says(desk, "put low 1 0", "ok")
        self.says(desk, "show low", "1 1/1 0")
        self.says(desk, "put low 0 0", "ok")
        self.says(desk, "put low 0 0", "ok")
        self.says(desk, "show low", "3 1/1 0")
        self.says(desk, "take low 0 1", "ok")
        self.says(desk, "show low", "3 0/1 0")
        self.says(desk, "show high", "3 2/2 1")

    def test_put_and_take_at_all_places_of_all_piles(self):
        box = (2, 2, 2)
        piles = all_piles(box)
        desk = desk_with("box 2 2 2")
        for pile, word, i, j in product(piles, ["put", "take"], range(2), range(2)):
            text = "/".join(" ".join(map(str, row)) for row in pile)
            moved = copy.deepcopy(pile)
            moved[i][j] += 1 if word == "put" else -1
            desk.say("pile it " + text)
            if moved in piles:
                self.says(desk, f"{word} it {i} {j}", "ok")
                self.says(desk, "show it", "/".join(" ".join(map(str, row)) for row in moved))
            else:
                self.refused(desk, f"{word} it {i} {j}", NoPile)

    def test_above_below_and_rest(self):
        desk = desk_with("box 2 2 3", "pile a 3 1/0 0", "pile b 2 2/1 0")
        for row in ["above c a b", "below d a b", "above e b a", "rest f a", "below g a a"]:
            self.says(desk, row, "ok")
        self.assertEqual(state_of(desk)[1:], (["a", "b", "c", "d", "e", "f", "g"], [
            "3 1/0 0", "2 2/1 0", "3 2/1 0", "2 1/0 0", "3 2/1 0", "3 3/2 0", "3 1/0 0"]))

    def test_into_a_name_that_stands_already(self):
        desk = desk_with("box 2 2 3", "pile a 3 1/0 0", "pile b 2 2/1 0")
        self.says(desk, "above a a b", "ok")
        self.says(desk, "show a", "3 2/1 0")
        self.says(desk, "below a b a", "ok")
        self.says(desk, "show a", "2 2/1 0")
        self.says(desk, "rest b b", "ok")
        self.says(desk, "show b", "3 2/1 1")
        self.says(desk, "show a", "2 2/1 0")

    def test_what_was_kept_of_another_pile_stays_as_it_was(self):
        desk = desk_with("box 1 2 3", "pile a 2 1")
        for row in ["above b a a", "below c a a", "rest d a", "put a 0 0", "take c 0 1"]:
            self.says(desk, row, "ok")
        self.assertEqual(state_of(desk)[2], ["3 1", "2 1", "2 0", "2 1"])

    def test_drop(self):
        desk = usual_desk()
        self.says(desk, "drop low", "ok")
        self.assertEqual(desk.names(), ["high"])
        self.refused(desk, "show low", NoName)
        self.refused(desk, "drop low", NoName)
        self.says(desk, "pile low 0 0/0 0", "ok")
        self.says(desk, "show low", "0 0/0 0")
        self.says(desk, "drop high", "ok")
        self.says(desk, "drop low", "ok")
        self.says(desk, "names", "none")

    def test_words_of_rows_are_names_too(self):
        desk = desk_with("box 1 1 3", "pile many 3", "pile box 1", "pile pile 2", "pile none 0", "pile names 1")
        self.says(desk, "many box many", "3")
        self.says(desk, "above above pile box", "ok")
        self.says(desk, "show above", "2")
        self.says(desk, "names", "above box many names none pile")
        self.says(desk, "rest rest none", "ok")
        self.says(desk, "show rest", "3")
        self.says(desk, "drop rest", "ok")

    def test_names_of_one_to_eight_letters(self):
        desk = Desk()
        for name in ["a", "z", "ab", "abcdefgh", "zzzzzzzz", "qrstuvwx"]:
            self.says(desk, f"pile {name} 1", "ok")
            self.says(desk, f"cubes {name}", "1")


class Asked(Case):
    def test_cubes_and_far(self):
        desk = usual_desk()
        self.says(desk, "cubes low", "2")
        self.says(desk, "cubes high", "8")
        self.says(desk, "far low high", "6")
        self.says(desk, "far high low", "6")
        self.says(desk, "far low low", "0")
        desk.say("pile c 3 0/3 0")
        self.says(desk, "far high c", "4")

    def test_many(self):
        desk = usual_desk()
        self.says(desk, "many", "50")
        self.says(desk, "many low low", "1")
        self.says(desk, "many high low", "0")
        between = [pile for pile in all_piles((2, 2, 3)) if pile[0][0] >= 1 and 1 <= pile[0][1] <= 2
                   and pile[1][0] <= 2 and pile[1][1] <= 1]
        self.says(desk, "many low high", str(len(between)))
        desk.say("box 6 6 6")
        self.says(desk, "many", "1478619421136")

    def test_number_and_nth(self):
        desk = desk_with("box 2 2 3")
        for number, pile in enumerate(sorted(all_piles((2, 2, 3)))):
            text = "/".join(" ".join(map(str, row)) for row in pile)
            self.says(desk, f"nth {number}", text)
            desk.say("pile it " + text)
            self.says(desk, "number it", str(number))
        self.refused(desk, "nth 50", NoNumber)
        self.refused(desk, "nth 999999", NoNumber)

    def test_the_last_number_of_the_greatest_box(self):
        desk = desk_with("box 6 6 6", "pile full " + "/".join(["6 6 6 6 6 6"] * 6))
        self.says(desk, "number full", "1478619421135")
        self.says(desk, "nth 1", "1 0 0 0 0 0" + "/0 0 0 0 0 0" * 5)
        self.says(desk, "nth 0", "0 0 0 0 0 0" + "/0 0 0 0 0 0" * 5)

    def test_share(self):
        for box in [(2, 2, 2), (1, 2, 3), (3, 2, 1)]:
            piles = all_piles(box)
            desk = desk_with("box {} {} {}".format(*box))
            for i, j, k in product(range(box[0]), range(box[1]), range(box[2])):
                top, bottom = map(int, desk.say(f"share {i} {j} {k}").split("/"))
                self.assertEqual(top * len(piles), bottom * sum(pile[i][j] > k for pile in piles))
                self.assertTrue(all(top % n or bottom % n for n in range(2, bottom + 1)))

    def test_share_by_hand(self):
        desk = desk_with("box 2 2 2")
        self.says(desk, "share 0 0 0", "19/20")
        self.says(desk, "share 1 1 1", "1/20")
        self.says(desk, "share 0 0 1", "7/10")

    def test_way(self):
        desk = desk_with("box 2 3 2", "pile a 2 1 1/2 0 0", "pile none 0 0 0/0 0 0")
        self.says(desk, "way a 0", "rdrrd")
        self.says(desk, "way a 1", "rddrr")
        self.says(desk, "way none 0", "ddrrr")

    def test_names(self):
        desk = Desk()
        for name in ["b", "ab", "a", "ba", "zz", "z", "aa"]:
            desk.say(f"pile {name} 0")
        self.says(desk, "names", "a aa ab b ba z zz")
        self.assertEqual(desk.names(), ["a", "aa", "ab", "b", "ba", "z", "zz"])
        self.assertIs(type(desk.names()), list)

    def test_the_list_of_names_is_the_askers_own(self):
        desk = usual_desk()
        told = desk.names()
        told.append("more")
        told[0] = "other"
        self.assertEqual(desk.names(), ["high", "low"])
        self.assertIsNot(desk.names(), desk.names())
        self.says(desk, "names", "high low")

    def test_asking_changes_nothing(self):
        for row in ["show low", "cubes low", "far low high", "many", "many low high", "number low", "nth 3",
                    "share 0 1 1", "way low 1", "names"]:
            desk = usual_desk()
            before = state_of(desk)
            answer = desk.say(row)
            self.assertEqual(state_of(desk), before)
            self.says(desk, row, answer)

    def test_all_that_is_told_is_answered_ok(self):
        for row in ROWS[:8]:
            self.says(usual_desk(), row, "ok")


class Beside(Case):
    def test_two_desks(self):
        one, other = Desk(), Desk()
        one.say("box 2 2 2")
        self.assertEqual(other.box_now(), (1, 1, 1))
        one.say("pile a 2 1/1 0")
        other.say("pile b 1")
        self.assertEqual((one.names(), other.names()), (["a"], ["b"]))
        self.refused(other, "show a", NoName)
        other.say("pile a 0")
        one.say("put a 0 1")
        other.say("box 1 2 1")
        self.assertEqual(state_of(one), ((2, 2, 2), ["a"], ["2 2/1 0"]))
        self.assertEqual(state_of(other), ((1, 2, 1), [], []))
        self.assertEqual(state_of(Desk()), ((1, 1, 1), [], []))


class NoRows(Case):
    def test_what_is_no_text(self):
        desk = usual_desk()
        for thing in NOTHINGS + NO_BOXES + [with_self(), ["many"], ("many",), b"many", {"many": 1}]:
            self.refused(desk, thing, NoRow)

    def test_other_words(self):
        desk = usual_desk()
        for row in ["", " ", "Many", "manys", "man", "MANY", "names low", "many low", "many low high low", "\n", "help",
                    "boxes 1 1 1", "count", "picture low", "pile", "box", "put", "nth", "show", "NAME",
                    "many NAME NAME", "box NUMBER NUMBER NUMBER", "nth NUMBER", "names none"]:
            self.refused(desk, row, NoRow)

    def test_a_word_more_or_less_or_unlike_blanks(self):
        desk = usual_desk()
        for row in ROWS:
            if row.startswith("pile"):
                continue
            words = row.split(" ")
            changed = [row + " ", " " + row, row + " low", row + " 1", row + "\n", row + "\t", "\t" + row, row + " \n",
                       row + "\r", row.upper(), row + "/", row + "\x00", row.title()]
            if len(words) > 1:
                changed += [row.replace(" ", "  ", 1), row.replace(" ", "\t", 1), row.replace(" ", "\n", 1),
                            row.replace(" ", "", 1), row.replace(" ", "\xa0", 1), " ".join(words[:-1]),
                            " ".join(words[:-1]) + " "]
            for other in changed:
                self.refused(desk, other, NoRow)

    def test_a_word_in_a_names_place_that_is_no_name(self):
        desk = usual_desk()
        bad = ["", "abcdefghi", "Low", "LOW", "lo1", "1", "l-w", "l_w", "low\n", "l\tw", "lo.", "\xe4", "\u0430",
               "\xb5"]
        for row in ROWS:
            words = row.split(" ")
            for n in range(1, len(words)):
                if words[n].isalpha():
                    for word in bad:
                        self.refused(desk, " ".join(words[:n] + [word] + words[n + 1:]), NoRow)

    def test_numbers_that_are_none(self):
        desk = usual_desk()
        bad = ["", "-1", "+1", "00", "01", "000000", "012345", "1234567", "1.0", "1.", "a", "low", "1\n", "\u0661",
               "\xb2", "1_0", "0x1", "1e3", " 1", "1,"]
        for row in ROWS:
            words = row.split(" ")
            if words[0] == "pile":
                continue
            for n in range(1, len(words)):
                if words[n].isdigit():
                    for word in bad:
                        self.refused(desk, " ".join(words[:n] + [word] + words[n + 1:]), NoRow)

    def test_numbers_of_one_to_six_figures_are_rows(self):
        desk = usual_desk()
        for number in ["7", "50", "700", "7000", "70000", "700000", "999999"]:
            self.refused(desk, f"box 1 {number} 1", NoBox)
            self.refused(desk, f"put low 0 {number}", NoPlace)
            self.refused(desk, f"share 0 0 {number}", NoPlace)
            self.refused(desk, f"way low {number}", NoPlace)
        for number in ["50", "700", "7000", "70000", "700000", "999999"]:
            self.refused(desk, f"nth {number}", NoNumber)

    def test_pile_without_a_blank_behind_the_name(self):
        desk = usual_desk()
        for row in ["pile ab", "pile low", "pile", "pile ", "pile  1 1/0 0", "pile  low 1 1/0 0", " pile low 1 1/0 0",
                    "pile\tlow 1 1/0 0", "pile low\t1 1/0 0", "pile low\n1 1/0 0", "pile 1 1/0 0", "Pile low 1 1/0 0",
                    "pile low/ 1 1/0 0", "pile\nlow 1 1/0 0", "pile low\n"]:
            self.refused(desk, row, NoRow)

    def test_no_row_comes_ahead_of_all_else(self):
        desk = usual_desk()
        for row in ["box 7 01 1", "box 0 0 a", "put nobody 00 0", "put nobody 9 -1", "above x nobody N", "pile Ab x",
                    "way nobody 01", "way nobody", "share 9 9 09", "many nobody nobody nobody", "drop nobody low",
                    "put low 9 0 ", "take high 5 1000000", "far nobody 1"]:
            self.refused(desk, row, NoRow)


class Refused(Case):
    def test_box(self):
        desk = usual_desk()
        for numbers in product([0, 1, 6, 7, 10, 999999], repeat=3):
            if not all(1 <= number <= 6 for number in numbers):
                self.refused(desk, "box {} {} {}".format(*numbers), NoBox)

    def test_names_that_stand_for_nothing(self):
        desk = usual_desk()
        for row, many in NEEDING_NAMES:
            for names in product(["low", "nobody"], repeat=many):
                if "nobody" in names:
                    self.refused(desk, row.format(*names), NoName)
            self.refused(Desk(), row.format(*["low"] * many), NoName)

    def test_a_name_to_be_kept_into_need_not_stand(self):
        for row in ["pile fresh 0 0/0 0", "above fresh low high", "below fresh low high", "rest fresh low"]:
            desk = usual_desk()
            self.says(desk, row, "ok")
            self.assertEqual(desk.names(), ["fresh", "high", "low"])

    def test_a_name_to_be_kept_into_is_no_pile_of_the_others(self):
        desk = usual_desk()
        for row in ["above fresh fresh low", "below fresh low fresh", "rest fresh fresh"]:
            self.refused(desk, row, NoName)

    def test_texts_that_write_none(self):
        desk = usual_desk()
        for text in ["", " ", " 1 1/0 0", "1 1/0 0 ", "1  1/0 0", "1 1/0 0\n", "1 1", "1 1/0 0/0 0", "4 1/0 0",
                     "1 2/0 0", "0 0/1 0", "01 1/0 0", "x", "low", "1 1 /0 0", "\n", "1 1\n0 0", "\t1 1/0 0",
                     "11 1/0 0"]:
            self.refused(desk, "pile low " + text, NoText)
            self.refused(desk, "pile fresh " + text, NoText)

    def test_places_and_heights_that_are_none(self):
        desk = usual_desk()
        for row in ["put low 2 0", "put low 0 2", "take low 2 0", "take low 0 2", "put low 999999 999999",
                    "share 2 0 0", "share 0 2 0", "share 0 0 3", "share 9 9 9", "way low 3", "way high 999999"]:
            self.refused(desk, row, NoPlace)

    def test_each_number_has_its_own_bound(self):
        desk = desk_with("box 1 2 3", "pile a 2 1")
        for row in ["put a 1 0", "take a 1 0", "put a 0 2", "share 1 0 0", "share 0 2 0", "share 0 0 3", "way a 3"]:
            self.refused(desk, row, NoPlace)
        for row in ["put a 0 1", "take a 0 1", "share 0 1 2", "way a 2"]:
            self.assertIsNone(refusal_of(desk.say, row))

    def test_cubes_that_may_not_be_moved(self):
        desk = usual_desk()
        for row in ["put low 0 1", "put low 1 1", "take low 0 0", "take low 1 0", "take low 1 1", "put high 0 0"]:
            self.refused(desk, row, NoPile)

    def test_a_name_comes_ahead_of_a_place(self):
        desk = usual_desk()
        for row in ["put nobody 9 9", "take nobody 9 9", "way nobody 9"]:
            self.refused(desk, row, NoName)

    def test_a_place_comes_ahead_of_a_cube_that_may_not_be_moved(self):
        desk = desk_with("box 2 2 3", "pile full 3 3/3 3", "pile empty 0 0/0 0")
        for row in ["put full 2 0", "put full 0 2", "take empty 2 2", "take empty 0 999999"]:
            self.refused(desk, row, NoPlace)
        for row in ["put full 0 0", "put full 1 1", "take empty 0 0", "take empty 1 1"]:
            self.refused(desk, row, NoPile)

    def test_after_a_refusal_all_goes_on(self):
        desk = usual_desk()
        for row in ["box 7 7 7", "put low 9 9", "put low 1 1", "pile low x", "above low low nobody", "drop nobody",
                    "?"]:
            self.assertIsNotNone(refusal_of(desk.say, row))
        self.assertEqual(state_of(desk), ((2, 2, 3), ["high", "low"], ["3 2/2 1", "1 1/0 0"]))
        self.says(desk, "put low 1 0", "ok")
        self.says(desk, "show low", "1 1/1 0")


if __name__ == "__main__":
    unittest.main()
