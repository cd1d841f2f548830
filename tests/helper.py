"""What several tests need: all piles of a small box, and things that are none.

The piles are found here from the words of the document alone, not with the program.
"""

from itertools import product

SMALL_BOXES = [(1, 1, 1), (1, 1, 3), (1, 3, 1), (3, 1, 1), (1, 2, 3), (3, 2, 1), (2, 2, 2), (2, 3, 2), (3, 2, 2)]

# How many piles each box has, by the product that the document tells.
PILES_OF_SMALL_BOXES = [2, 4, 4, 4, 10, 10, 20, 50, 50]

NO_BOXES = [
    None, True, False, 0, 1, 3.5, "", "222", "2x2x2", object(), int, [], {}, (),
    [2, 2, 2], {2: 2}, {1: 1, 2: 2, 3: 3}, {1, 2, 3}, range(1, 4), b"222",
    (2,), (2, 2), (2, 2, 2, 2), ((2, 2, 2),), [(2, 2, 2)],
    (0, 2, 2), (2, 0, 2), (2, 2, 0), (-1, 2, 2), (2, -1, 2), (2, 2, -10 ** 39), (0, 0, 0),
    (True, 2, 2), (2, True, 2), (2, 2, True), (2, 2, False), (True, True, True),
    ("2", 2, 2), (2, "", 2), (2, 2, None), (None, None, None), (2.0, 2, 2), (2, 2, float("nan")),
    ([2], 2, 2), (2, (2,), 2), (2, 2, {}), (2, 2, [2]),
]

# Things that are no list of lists, no list of texts and no box either, whatever is asked.
NOTHINGS = [None, True, False, 0, 1, -1, 10 ** 39, 2.0, "", "dr", "rrdd", object(), int, (), {}, set(), b"dr",
            [None], [True], [0], [1], [()], [{}], [[None]], [[[]]], [[()]], [["r"]], [object()]]


def never_rise(numbers):
    return all(numbers[n] >= numbers[n + 1] for n in range(len(numbers) - 1))


def all_piles(box):
    a, b, c = box
    piles = []
    for heights in product(range(c + 1), repeat=a * b):
        rows = [list(heights[i * b:(i + 1) * b]) for i in range(a)]
        columns = [[row[j] for row in rows] for j in range(b)]
        if all(never_rise(line) for line in rows + columns):
            piles.append(rows)
    return piles


def all_cubes(box):
    a, b, c = box
    return [(i, j, k) for i in range(a) for j in range(b) for k in range(c)]


def with_self():
    """A list that holds itself."""
    thing = []
    thing.append(thing)
    return thing


def lists_within(thing):
    """Every list in an answer, itself first."""
    found = []
    if isinstance(thing, list):
        found.append(thing)
    if isinstance(thing, (list, tuple)):
        for part in thing:
            found.extend(lists_within(part))
    return found


def spoil(thing):
    """Changes every list in an answer."""
    for part in lists_within(thing):
        part.reverse()
        part.append("spoilt")
        part[0] = -7


def empty_pile(box):
    return [[0] * box[1] for i in range(box[0])]


def full_pile(box):
    return [[box[2]] * box[1] for i in range(box[0])]


def below(pile, other):
    return all(height <= greater for row, above in zip(pile, other) for height, greater in zip(row, above))


def piles_between(piles, low, high):
    return [pile for pile in piles if below(low, pile) and below(pile, high)]


def all_places(box):
    return [(i, j) for i in range(box[0]) for j in range(box[1])]


def refusal_of(function, *arguments):
    """The class of the refusal that this asking meets, or None."""
    try:
        function(*arguments)
    except ValueError as error:
        return type(error)
    return None
