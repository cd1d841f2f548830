"""The piles between a low and a high one, by their numbers, and the bounds of piles with told heights."""

from cornerpiles.errors import NoNumber, NoPlace
from cornerpiles.moves import is_place, lies_below, must_be_two_piles
from cornerpiles.piles import is_whole_number, must_be_box, must_be_pile
from cornerpiles.tables import tables_between, tally_between


def how_many_between(box, low, high):
    must_be_two_piles(box, low, high)
    return sum(tally_between(box, low, high, []))


def rows_behind(table, ahead):
    return [row for row in table if all([row[j] <= ahead[j] for j in range(len(row))])]


# The row that the pile of this number has here, and its number among those with this row.
# Where there are not so many piles, there is no such row.
def row_of_number(table, ahead, number):
    left = number
    for row in rows_behind(table, ahead):
        many = sum(table[row])
        if left < many:
            return (row, left)
        left -= many
    return None


def nth_between(box, low, high, number):
    must_be_two_piles(box, low, high)
    if not is_whole_number(number) or number < 0:
        raise NoNumber("piles have numbers from 0 on")
    pile = []
    ahead = [box[2]] * box[1]
    left = number
    for table in tables_between(box, low, high, []):
        found = row_of_number(table, ahead, left)
        if found is None:
            raise NoNumber("there are not so many piles between these")
        ahead, left = found
        pile.append(list(ahead))
    return pile


def how_many_ahead_of(row, table, ahead):
    return sum([sum(table[other]) for other in rows_behind(table, ahead) if other < row])


def number_between(box, low, high, pile):
    must_be_two_piles(box, low, high)
    must_be_pile(box, pile)
    if not lies_below(box, low, pile) or not lies_below(box, pile, high):
        raise NoPlace("this pile is not between these")
    number = 0
    ahead = [box[2]] * box[1]
    for table, row in zip(tables_between(box, low, high, []), pile):
        number += how_many_ahead_of(tuple(row), table, ahead)
        ahead = row
    return number


def must_be_told_heights(box, heights):
    if not all([is_place(box, i, j) for i, j, height in heights]):
        raise NoPlace("a height is told of no place of the box")
    if not all([is_whole_number(height) and 0 <= height <= box[2] for i, j, height in heights]):
        raise NoNumber("a height is a whole number from 0 to that of the box")


def least_height(heights, i, j):
    return max([told[2] for told in heights if told[0] >= i and told[1] >= j], default=0)


def greatest_height(heights, i, j, height):
    return min([told[2] for told in heights if told[0] <= i and told[1] <= j], default=height)


# Both are piles whatever is told; at a told place low has no less than told, high no more.
# So there is a pile with all these heights just where low lies below high.
def bounds_with(box, heights):
    must_be_box(box)
    must_be_told_heights(box, heights)
    low = []
    high = []
    for i in range(box[0]):
        low.append([least_height(heights, i, j) for j in range(box[1])])
        high.append([greatest_height(heights, i, j, box[2]) for j in range(box[1])])
    if not lies_below(box, low, high):
        return None
    return (low, high)
