"""Boxes, piles of a box, their cubes, and piles mirrored, rolled and turned to their rest."""

from cornerpiles.errors import NoBox, NoPile


# True and False are ints to Python, but no whole numbers here.
def is_whole_number(thing):
    return isinstance(thing, int) and not isinstance(thing, bool)


def is_box(thing):
    if not isinstance(thing, tuple) or len(thing) != 3:
        return False
    return all([is_whole_number(number) and number >= 1 for number in thing])


def must_be_box(box):
    if not is_box(box):
        raise NoBox("a box is a tuple of three whole numbers from 1 on")


def is_row_of_heights(thing, columns, height):
    if not isinstance(thing, list) or len(thing) != columns:
        return False
    return all([is_whole_number(number) and 0 <= number <= height for number in thing])


def never_rises(numbers):
    return all([numbers[n] <= numbers[n - 1] for n in range(1, len(numbers))])


def column_of(table, j):
    return [row[j] for row in table]


def is_pile(box, thing):
    must_be_box(box)
    rows, columns, height = box
    # The length comes ahead of any walk over the box, which may be of any size.
    if not isinstance(thing, list) or len(thing) != rows:
        return False
    if not all([is_row_of_heights(row, columns, height) for row in thing]):
        return False
    if not all([never_rises(row) for row in thing]):
        return False
    return all([never_rises(column_of(thing, j)) for j in range(columns)])


def must_be_pile(box, pile):
    if not is_pile(box, pile):
        raise NoPile("this is no pile of the box")


def cubes_of(box, pile):
    must_be_pile(box, pile)
    cubes = []
    for i, row in enumerate(pile):
        for j, height in enumerate(row):
            cubes.extend([(i, j, k) for k in range(height)])
    return cubes


def how_many_cubes(box, pile):
    must_be_pile(box, pile)
    return sum([sum(row) for row in pile])


def is_cube_in(box, thing):
    if not isinstance(thing, tuple) or len(thing) != 3:
        return False
    return all([is_whole_number(number) and 0 <= number < size for number, size in zip(thing, box)])


# Towards the floor and towards both walls; where one of these is next, no cube is needed there.
def cubes_needed_by(cube):
    i, j, k = cube
    nearer = [(i - 1, j, k), (i, j - 1, k), (i, j, k - 1)]
    return [other for other in nearer if min(other) >= 0]


def must_be_cubes_of_a_pile(box, cubes):
    if not isinstance(cubes, list) or not all([is_cube_in(box, cube) for cube in cubes]):
        raise NoPile("these are not all cubes of the box")
    there = {}
    for cube in cubes:
        there[cube] = True
    for cube in cubes:
        if not all([other in there for other in cubes_needed_by(cube)]):
            raise NoPile("a cube is lacking that another one needs")


def pile_of_cubes(box, cubes):
    must_be_box(box)
    must_be_cubes_of_a_pile(box, cubes)
    rows, columns, height = box
    pile = [[0] * columns for i in range(rows)]
    for i, j, k in cubes:
        pile[i][j] = max(pile[i][j], k + 1)
    return pile


def mirrored_pile(box, pile):
    must_be_pile(box, pile)
    return [column_of(pile, j) for j in range(box[1])]


def how_many_above(numbers, level):
    return len([number for number in numbers if number > level])


# Heights never rise along a column, so the rows with a cube at (j, k) are the first ones:
# how many there are is the rolled pile's height there.
def rolled_pile(box, pile):
    must_be_pile(box, pile)
    rolled = []
    for j in range(box[1]):
        column = column_of(pile, j)
        rolled.append([how_many_above(column, k) for k in range(box[2])])
    return rolled


def rest_of(box, pile):
    must_be_pile(box, pile)
    rest = []
    for row in reversed(pile):
        rest.append([box[2] - number for number in reversed(row)])
    return rest
