"""How often a cube is there, and how high and great the piles are, of all between a low and a high one."""

from cornerpiles.errors import NoNumber, NoPlace
from cornerpiles.moves import is_place, lies_below, places_of
from cornerpiles.piles import is_cube_in
from cornerpiles.tables import tally_between


def greatest_divisor(number, other):
    while other > 0:
        number, other = other, number % other
    return number


def in_least_numbers(top, bottom):
    divisor = greatest_divisor(top, bottom)
    return (top // divisor, bottom // divisor)


# Where low lies below high, it is itself one of the piles between them.
def must_be_piles_between(box, low, high):
    if not lies_below(box, low, high):
        raise NoNumber("there is no pile between these")


def mean_of(tally):
    return in_least_numbers(sum([n * many for n, many in enumerate(tally)]), sum(tally))


def cube_share(box, low, high, cube):
    must_be_piles_between(box, low, high)
    if not is_cube_in(box, cube):
        raise NoPlace("this is no cube of the box")
    i, j, k = cube
    tally = tally_between(box, low, high, [(i, j)])
    return in_least_numbers(sum(tally[k + 1:]), sum(tally))


def mean_height(box, low, high, i, j):
    must_be_piles_between(box, low, high)
    if not is_place(box, i, j):
        raise NoPlace("this is no place of the box")
    return mean_of(tally_between(box, low, high, [(i, j)]))


def mean_cubes(box, low, high):
    must_be_piles_between(box, low, high)
    return mean_of(tally_between(box, low, high, places_of(box)))
