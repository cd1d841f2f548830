"""Piles as rows of staircases, one on the other."""

from cornerpiles.errors import NoStairs
from cornerpiles.piles import column_of, how_many_above, is_pile, must_be_box, must_be_pile


def stairs_of(box, pile):
    must_be_pile(box, pile)
    stairs = []
    for k in range(box[2]):
        stairs.append([how_many_above(row, k) for row in pile])
    return stairs


# Staircases that fit on one another are a table of numbers that never rise, as a pile is:
# of as many rows as the box is high, as many places as it has rows, numbers up to its columns.
def are_stairs(box, thing):
    must_be_box(box)
    rows, columns, height = box
    return is_pile((height, rows, columns), thing)


def pile_of_stairs(box, stairs):
    if not are_stairs(box, stairs):
        raise NoStairs("this is no row of staircases of the box")
    rows, columns, height = box
    pile = []
    for i in range(rows):
        numbers = column_of(stairs, i)
        pile.append([how_many_above(numbers, j) for j in range(columns)])
    return pile
