"""Piles as rows of ways side by side that never touch."""

from cornerpiles.errors import NoWays
from cornerpiles.piles import must_be_box
from cornerpiles.stairs import are_stairs, pile_of_stairs, stairs_of


def way_of_staircase(columns, staircase):
    way = ""
    reached = 0
    for number in reversed(staircase):
        way += "r" * (number - reached) + "d"
        reached = number
    return way + "r" * (columns - reached)


def staircase_of_way(way):
    numbers = []
    reached = 0
    for sign in way:
        if sign == "r":
            reached += 1
        else:
            numbers.append(reached)
    return list(reversed(numbers))


def ways_of(box, pile):
    stairs = stairs_of(box, pile)
    return [way_of_staircase(box[1], staircase) for staircase in stairs]


def is_way(box, thing):
    rows, columns, height = box
    if not isinstance(thing, str) or len(thing) != rows + columns:
        return False
    return thing.count("d") == rows and thing.count("r") == columns


# However many ways: as many as the box is high are asked for by are_ways alone.
def is_list_of_ways(box, thing):
    return isinstance(thing, list) and all([is_way(box, way) for way in thing])


def are_ways(box, thing):
    must_be_box(box)
    if not is_list_of_ways(box, thing):
        return False
    return are_stairs(box, [staircase_of_way(way) for way in thing])


def pile_of_ways(box, ways):
    if not are_ways(box, ways):
        raise NoWays("these are no ways of a pile of the box")
    return pile_of_stairs(box, [staircase_of_way(way) for way in ways])


def points_moved_apart(way, k):
    x = -k
    y = k
    points = [(x, y)]
    for sign in way:
        if sign == "r":
            x += 1
        else:
            y += 1
        points.append((x, y))
    return points


def never_touch(box, ways):
    must_be_box(box)
    if not is_list_of_ways(box, ways):
        raise NoWays("this is no list of ways in the box")
    taken = {}
    for k, way in enumerate(ways):
        for point in points_moved_apart(way, k):
            if point in taken:
                return False
            taken[point] = True
    return True
