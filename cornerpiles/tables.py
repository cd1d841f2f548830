"""For each row of heights, how many piles go on behind it: what counts, piles between two and shares are told from.

A tally is a list: how many piles have 0, 1, 2 .. cubes at the places that are counted. Where no place is counted,
its one number is how many piles there are; where there are none, it is empty or of noughts.
"""


# In the order of lists, which the sums below and the numbers of piles hang on.
def rows_of_heights(columns, height):
    rows = [()]
    for j in range(columns):
        longer = []
        for row in rows:
            most = row[-1] if j > 0 else height
            longer.extend([row + (number,) for number in range(most + 1)])
        rows = longer
    return rows


def added(tally, other):
    total = list(tally) + [0] * (len(other) - len(tally))
    for n, many in enumerate(other):
        total[n] += many
    return total


# For each row the sum over all rows that are nowhere greater, with one addition a place instead of one for each such
# row: rows are walked in order, so at place j the row with one less there holds, ahead of this one, the sum over all
# that are no greater up to j and alike behind it. Where that is no row, the next height bars all lower ones too.
def sums_of_lower_rows(table, columns):
    sums = dict(table)
    for j in range(columns):
        for row in table:
            lower = row[:j] + (row[j] - 1,) + row[j + 1:]
            if lower in sums:
                sums[row] = added(sums[row], sums[lower])
    return sums


def lies_between(row, low, high):
    return all([low[j] <= row[j] <= high[j] for j in range(len(row))])


def table_of_row(behind, low, high, counted):
    table = {}
    for row in behind:
        if lies_between(row, low, high):
            table[row] = [0] * sum([row[j] for j in counted]) + behind[row]
        else:
            table[row] = []
    return table


# One table for each row of the box, the first one first: for each row of heights the tally of what can stand from
# there on where it stands there. A row of noughts behind the last one hinders nothing, and begins the sums.
def tables_between(box, low, high, places):
    rows, columns, height = box
    table = {}
    for row in rows_of_heights(columns, height):
        table[row] = [1] if sum(row) == 0 else []
    tables = []
    for i in range(rows - 1, -1, -1):
        counted = [place[1] for place in places if place[0] == i]
        table = table_of_row(sums_of_lower_rows(table, columns), low[i], high[i], counted)
        tables.append(table)
    return list(reversed(tables))


def tally_between(box, low, high, places):
    total = []
    for tally in tables_between(box, low, high, places)[0].values():
        total = added(total, tally)
    return total
