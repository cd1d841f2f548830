"""[23], [24]: many rows said one after the other, beside a plain desk made here from the words of the document.

The rows come from a fixed beginning, so they are the same at each run.
"""

import random
import re
import unittest
from collections import Counter
from fractions import Fraction
from functools import cache

from cornerpiles.desk import Desk
from cornerpiles.errors import NoBox, NoName, NoNumber, NoPile, NoPlace, NoRow, NoText
from tests.helper import all_piles, below, piles_between

SHAPES = {
    "box": "NNN", "put": "WNN", "take": "WNN", "above": "WWW", "below": "WWW", "rest": "WW", "drop": "W", "show": "W",
    "cubes": "W", "far": "WW", "number": "W", "nth": "N", "share": "NNN", "way": "WN", "names": "",
}
KINDS = {"N": r" (0|[1-9][0-9]{0,5})", "W": r" ([a-z]{1,8})"}

sorted_piles = cache(lambda box: sorted(all_piles(box)))


def writing(pile):
    return "/".join(" ".join(str(height) for height in row) for row in pile)


class PlainDesk:
    """Answers a text, or the class of the refusal."""

    def __init__(self):
        self.box = (1, 1, 1)
        self.piles = {}

    def parts(self, row):
        found = re.fullmatch(r"pile ([a-z]{1,8}) (.*)", row, re.DOTALL)
        if found:
            return ["pile", *found.groups()]
        for word, shape in [*SHAPES.items(), ("many", ""), ("many", "WW")]:
            found = re.fullmatch(word + "".join(KINDS[kind] for kind in shape), row)
            if found:
                return [word, *[int(part) if part.isdigit() else part for part in found.groups()]]
        return None

    def answer(self, row):
        parts = self.parts(row)
        if parts is None:
            return NoRow
        word, told = parts[0], parts[1:]
        if word == "box" and not all(1 <= number <= 6 for number in told):
            return NoBox
        needed = told[:1] if word == "pile" else [part for part in told if isinstance(part, str)]
        if word in ("pile", "above", "below", "rest"):
            needed = needed[1:]
        if any(name not in self.piles for name in needed):
            return NoName
        return getattr(self, "do_" + word)(*told)

    def do_box(self, a, b, c):
        self.box, self.piles = (a, b, c), {}
        return "ok"

    def do_pile(self, name, text):
        for pile in sorted_piles(self.box):
            if writing(pile) == text:
                self.piles[name] = pile
                return "ok"
        return NoText

    def moved(self, name, i, j, sign):
        if i >= self.box[0] or j >= self.box[1]:
            return NoPlace
        pile = [[height + sign * ((i, j) == (m, n)) for n, height in enumerate(row)]
                for m, row in enumerate(self.piles[name])]
        if pile not in sorted_piles(self.box):
            return NoPile
        self.piles[name] = pile
        return "ok"

    def do_put(self, name, i, j):
        return self.moved(name, i, j, 1)

    def do_take(self, name, i, j):
        return self.moved(name, i, j, -1)

    # The least of all piles that lie above both; the greatest of all below both.
    def do_above(self, into, name, other):
        both = [pile for pile in sorted_piles(self.box)
                if below(self.piles[name], pile) and below(self.piles[other], pile)]
        self.piles[into] = min(both, key=lambda pile: sum(map(sum, pile)))
        return "ok"

    def do_below(self, into, name, other):
        both = [pile for pile in sorted_piles(self.box)
                if below(pile, self.piles[name]) and below(pile, self.piles[other])]
        self.piles[into] = max(both, key=lambda pile: sum(map(sum, pile)))
        return "ok"

    def do_rest(self, into, name):
        a, b, c = self.box
        self.piles[into] = [[c - self.piles[name][a - 1 - i][b - 1 - j] for j in range(b)] for i in range(a)]
        return "ok"

    def do_drop(self, name):
        del self.piles[name]
        return "ok"

    def do_show(self, name):
        return writing(self.piles[name])

    def do_cubes(self, name):
        return str(sum(map(sum, self.piles[name])))

    def do_far(self, name, other):
        pairs = zip(sum(self.piles[name], []), sum(self.piles[other], []))
        return str(sum(abs(height - another) for height, another in pairs))

    def do_many(self, *names):
        if not names:
            return str(len(sorted_piles(self.box)))
        return str(len(piles_between(sorted_piles(self.box), *[self.piles[name] for name in names])))

    def do_number(self, name):
        return str(sorted_piles(self.box).index(self.piles[name]))

    def do_nth(self, number):
        piles = sorted_piles(self.box)
        return writing(piles[number]) if number < len(piles) else NoNumber

    def do_share(self, i, j, k):
        if i >= self.box[0] or j >= self.box[1] or k >= self.box[2]:
            return NoPlace
        piles = sorted_piles(self.box)
        share = Fraction(sum(pile[i][j] > k for pile in piles), len(piles))
        return f"{share.numerator}/{share.denominator}"

    def do_way(self, name, k):
        if k >= self.box[2]:
            return NoPlace
        numbers = [sum(height > k for height in row) for row in self.piles[name]] + [0]
        steps = ["r" * (numbers[i] - numbers[i + 1]) + "d" for i in range(self.box[0] - 1, -1, -1)]
        return "".join(steps) + "r" * (self.box[1] - numbers[0])

    def do_names(self):
        return " ".join(sorted(self.piles)) or "none"


def some_row(chance, box):
    """Rows mostly, and at times one that is none."""
    word = chance.choice([*SHAPES, "many", "pile", "pile", "pile", "put", "take"])
    if word == "box" and chance.random() < 0.5:
        word = "above"
    if word == "pile":
        name = chance.choice(["a", "b", "cd", "efg"])
        text = writing(chance.choice(sorted_piles(box)))
        return f"pile {name} " + chance.choice([text, text, text, text + " ", text[:-1], text + "/0", "x"])
    shape = SHAPES[word] if word in SHAPES else chance.choice(["", "WW"])
    names = ["a", "b", "cd", "efg"] * 10 + ["nobody", "nobody", "abcdefghi"]
    numbers = ["1", "2", "2", "3", "2"] * 4 if word == "box" else ["0", "1"] * 10 + ["2", "3", "19"]
    kinds = {"W": names, "N": numbers + ["0", "7", "01"]}
    row = " ".join([word, *[chance.choice(kinds[kind]) for kind in shape]])
    return chance.choice([row] * 30 + [row + " ", row + " a", row[:-1], " " + row])


class Walk(unittest.TestCase):
    def test_beside_a_plain_desk(self):
        met = Counter()
        for beginning in range(20):
            chance = random.Random(beginning)
            desk, plain = Desk(), PlainDesk()
            for n in range(300):
                row = some_row(chance, plain.box) if n > 0 else "box 2 2 2"
                due = plain.answer(row)
                try:
                    told = desk.say(row)
                except ValueError as error:
                    told = type(error)
                self.assertEqual(told, due, row)
                self.assertEqual((desk.box_now(), desk.names()), (plain.box, sorted(plain.piles)), row)
                for name, pile in plain.piles.items():
                    self.assertEqual(desk.say("show " + name), writing(pile), row)
                met[row.split(" ")[0], due if isinstance(due, type) else "answered"] += 1
        for word in [*SHAPES, "many", "pile"]:
            self.assertGreater(met[word, "answered"], 10, word)
        for pair in [("box", NoBox), ("put", NoName), ("put", NoPlace), ("put", NoPile), ("take", NoPile),
                     ("pile", NoText), ("nth", NoNumber), ("way", NoPlace), ("share", NoPlace), ("many", NoRow)]:
            self.assertGreater(met[pair], 3, pair)


if __name__ == "__main__":
    unittest.main()
