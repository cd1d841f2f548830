"""A desk: a box and piles by names, told and asked by rows."""

from cornerpiles.between import bounds_with, how_many_between, nth_between, number_between
from cornerpiles.counts import count_by_product
from cornerpiles.errors import NoBox, NoName, NoPlace
from cornerpiles.moves import fewest_moved, is_place, pile_above, pile_below, table_after
from cornerpiles.piles import how_many_cubes, must_be_pile, rest_of
from cornerpiles.rows import read_row
from cornerpiles.shares import cube_share
from cornerpiles.texts import read_pile, show_pile
from cornerpiles.ways import ways_of

MOST_OF_BOX = 6


def pile_called(desk, name):
    if name not in desk.piles:
        raise NoName("no pile has this name")
    return desk.piles[name]


# With no heights told, the bounds are those of all piles: the empty one and the full one.
def bounds_of_all(desk):
    return bounds_with(desk.box, [])


def tell_box(desk, told):
    if min(told) < 1 or max(told) > MOST_OF_BOX:
        raise NoBox(f"the numbers of a desk's box go from 1 to {MOST_OF_BOX}")
    desk.box = tuple(told)
    desk.piles = {}
    return "ok"


def tell_pile(desk, told):
    name, text = told
    desk.piles[name] = read_pile(desk.box, text)
    return "ok"


def move_cube(desk, told, sign):
    name, i, j = told
    pile = pile_called(desk, name)
    if not is_place(desk.box, i, j):
        raise NoPlace("this is no place of the box")
    moved = table_after(pile, (sign, i, j))
    must_be_pile(desk.box, moved)
    desk.piles[name] = moved
    return "ok"


def put_cube(desk, told):
    return move_cube(desk, told, 1)


def take_cube(desk, told):
    return move_cube(desk, told, -1)


def keep_above(desk, told):
    into, name, other = told
    desk.piles[into] = pile_above(desk.box, pile_called(desk, name), pile_called(desk, other))
    return "ok"


def keep_below(desk, told):
    into, name, other = told
    desk.piles[into] = pile_below(desk.box, pile_called(desk, name), pile_called(desk, other))
    return "ok"


def keep_rest(desk, told):
    into, name = told
    desk.piles[into] = rest_of(desk.box, pile_called(desk, name))
    return "ok"


def drop_pile(desk, told):
    pile_called(desk, told[0])
    desk.piles.pop(told[0])
    return "ok"


def tell_writing(desk, told):
    return show_pile(desk.box, pile_called(desk, told[0]))


def tell_cubes(desk, told):
    return str(how_many_cubes(desk.box, pile_called(desk, told[0])))


def tell_fewest_moved(desk, told):
    name, other = told
    return str(fewest_moved(desk.box, pile_called(desk, name), pile_called(desk, other)))


def tell_how_many(desk, told):
    return str(count_by_product(desk.box))


def tell_how_many_between(desk, told):
    low, high = told
    return str(how_many_between(desk.box, pile_called(desk, low), pile_called(desk, high)))


def tell_number(desk, told):
    pile = pile_called(desk, told[0])
    low, high = bounds_of_all(desk)
    return str(number_between(desk.box, low, high, pile))


def tell_nth(desk, told):
    low, high = bounds_of_all(desk)
    return show_pile(desk.box, nth_between(desk.box, low, high, told[0]))


def tell_share(desk, told):
    low, high = bounds_of_all(desk)
    top, bottom = cube_share(desk.box, low, high, tuple(told))
    return f"{top}/{bottom}"


def tell_way(desk, told):
    name, k = told
    pile = pile_called(desk, name)
    if k >= desk.box[2]:
        raise NoPlace("the box is not so high")
    return ways_of(desk.box, pile)[k]


def tell_names(desk, told):
    found = desk.names()
    return " ".join(found) if len(found) > 0 else "none"


# What is done for a row of each form.
ANSWERS = {
    "box NUMBER NUMBER NUMBER": tell_box,
    "pile NAME TEXT": tell_pile,
    "put NAME NUMBER NUMBER": put_cube,
    "take NAME NUMBER NUMBER": take_cube,
    "above NAME NAME NAME": keep_above,
    "below NAME NAME NAME": keep_below,
    "rest NAME NAME": keep_rest,
    "drop NAME": drop_pile,
    "show NAME": tell_writing,
    "cubes NAME": tell_cubes,
    "far NAME NAME": tell_fewest_moved,
    "many": tell_how_many,
    "many NAME NAME": tell_how_many_between,
    "number NAME": tell_number,
    "nth NUMBER": tell_nth,
    "share NUMBER NUMBER NUMBER": tell_share,
    "way NAME NUMBER": tell_way,
    "names": tell_names,
}


class Desk:
    def __init__(self):
        self.box = (1, 1, 1)
        self.piles = {}

    def say(self, row):
        form, told = read_row(row, list(ANSWERS))
        return ANSWERS[form](self, told)

    def box_now(self):
        return self.box

    def names(self):
        return sorted(self.piles)
