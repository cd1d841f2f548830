"""How many piles a box has, in all and of each number of cubes, by several roads."""

from cornerpiles.moves import places_of
from cornerpiles.piles import must_be_box
from cornerpiles.tables import tally_between


def tally_of_box(box, places):
    rows, columns, height = box
    empty = [[0] * columns for i in range(rows)]
    full = [[height] * columns for i in range(rows)]
    return tally_between(box, empty, full, places)


def count_by_rows(box):
    must_be_box(box)
    return sum(tally_of_box(box, []))


def how_many_texts(downs, rights):
    if downs < 0 or rights < 0:
        return 0
    many = 1
    for n in range(1, downs + 1):
        many = many * (rights + n) // n
    return many


def row_without_first(row, first, divisor):
    return [(first[0] * row[j] - row[0] * first[j]) // divisor for j in range(1, len(row))]


# Each step divides by the number that stood first a step ago, which leaves nothing over and keeps to whole numbers.
# It is never 0 here: the n-th such number is how many piles the box has with n in the place of its height.
def determinant(table):
    rest = table
    divisor = 1
    while len(rest) > 1:
        first = rest[0]
        rest = [row_without_first(row, first, divisor) for row in rest[1:]]
        divisor = first[0]
    return rest[0][0]


def count_by_ways(box):
    must_be_box(box)
    rows, columns, height = box
    table = []
    for i in range(height):
        table.append([how_many_texts(rows - i + j, columns + i - j) for j in range(height)])
    return determinant(table)


# The number below each of these in the product is less by 1.
def numbers_above(box):
    rows, columns, height = box
    numbers = []
    for i in range(1, rows + 1):
        for j in range(1, columns + 1):
            numbers.extend([i + j + k - 1 for k in range(1, height + 1)])
    return numbers


def count_by_product(box):
    must_be_box(box)
    top = 1
    bottom = 1
    for number in numbers_above(box):
        top = top * number
        bottom = bottom * (number - 1)
    return top // bottom


def by_cubes(box):
    must_be_box(box)
    return tally_of_box(box, places_of(box))


# Times the sum 1 + x + .. of so many powers: each number is the sum of as many of the old ones, up to its own.
def times_powers(numbers, powers):
    product = []
    last_ones = 0
    for n in range(len(numbers) + powers - 1):
        if n < len(numbers):
            last_ones += numbers[n]
        if n >= powers:
            last_ones -= numbers[n - powers]
        product.append(last_ones)
    return product


# Such a product led back: from each number all is taken that the ones told already make of it.
def over_powers(numbers, powers):
    quotient = []
    last_ones = 0
    for n in range(len(numbers) - powers + 1):
        if n >= powers:
            last_ones -= quotient[n - powers]
        quotient.append(numbers[n] - last_ones)
        last_ones += quotient[n]
    return quotient


# All are multiplied ahead of the first division: on the way there a quotient need not be a list of whole numbers.
def by_cubes_product(box):
    must_be_box(box)
    numbers = [1]
    for powers in numbers_above(box):
        numbers = times_powers(numbers, powers)
    for powers in numbers_above(box):
        numbers = over_powers(numbers, powers - 1)
    return numbers
