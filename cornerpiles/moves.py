"""Cubes put on and taken off, roads from pile to pile, and what two piles have below and above them."""

from cornerpiles.errors import NoRoad
from cornerpiles.piles import is_pile, is_whole_number, must_be_pile


def must_be_two_piles(box, pile, other):
    must_be_pile(box, pile)
    must_be_pile(box, other)


def places_of(box):
    places = []
    for i in range(box[0]):
        places.extend([(i, j) for j in range(box[1])])
    return places


# A number below 0 would lead Python to the far end of a list, so it is no place.
def is_place(box, i, j):
    if not is_whole_number(i) or not is_whole_number(j):
        return False
    return 0 <= i < box[0] and 0 <= j < box[1]


def copy_of(pile):
    return [list(row) for row in pile]


def table_after(pile, step):
    sign, i, j = step
    table = copy_of(pile)
    table[i][j] += sign
    return table


def places_to_move(box, pile, sign):
    return [(i, j) for i, j in places_of(box) if is_pile(box, table_after(pile, (sign, i, j)))]


def may_move(box, pile):
    must_be_pile(box, pile)
    return (places_to_move(box, pile, 1), places_to_move(box, pile, -1))


def fewest_moved(box, pile, other):
    must_be_two_piles(box, pile, other)
    return sum([abs(pile[i][j] - other[i][j]) for i, j in places_of(box)])


def is_step(box, thing):
    if not isinstance(thing, tuple) or len(thing) != 3:
        return False
    sign, i, j = thing
    return is_whole_number(sign) and sign in (1, -1) and is_place(box, i, j)


def road_end(box, pile, road):
    must_be_pile(box, pile)
    end = copy_of(pile)
    for step in road:
        if not is_step(box, step):
            raise NoRoad("a step is a sign, 1 or -1, and a place of the box")
        end = table_after(end, step)
        if not is_pile(box, end):
            raise NoRoad("a step leads to no pile of the box")
    return end


# From the far end on, so that what a cube holds up is gone ahead of it.
def steps_off(box, pile, lower):
    steps = []
    for i, j in reversed(places_of(box)):
        steps.extend([(-1, i, j)] * (pile[i][j] - lower[i][j]))
    return steps


# From the corner on, so that what holds a cube up is there ahead of it.
def steps_on(box, pile, higher):
    steps = []
    for i, j in places_of(box):
        steps.extend([(1, i, j)] * (higher[i][j] - pile[i][j]))
    return steps


def road_to(box, pile, other):
    between = pile_below(box, pile, other)
    return steps_off(box, pile, between) + steps_on(box, between, other)


def pile_below(box, pile, other):
    must_be_two_piles(box, pile, other)
    below = []
    for row, other_row in zip(pile, other):
        below.append([min(height, other_height) for height, other_height in zip(row, other_row)])
    return below


def pile_above(box, pile, other):
    must_be_two_piles(box, pile, other)
    above = []
    for row, other_row in zip(pile, other):
        above.append([max(height, other_height) for height, other_height in zip(row, other_row)])
    return above


def lies_below(box, pile, other):
    must_be_two_piles(box, pile, other)
    return all([pile[i][j] <= other[i][j] for i, j in places_of(box)])
