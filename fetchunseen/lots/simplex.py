"""The greatest sum of weights and the least sum of a cover, by exchanging columns.

The table has a row for each lot (its houses, its own slack, what it bears) and
last one for the sum. All its numbers are integers, to be divided by one bottom.
"""


def first_table(houses, lots):
    """The table of no weights: each lot bears 1 more."""
    rows = []
    for at in range(len(lots)):
        borne = [int(house in lots[at]) for house in range(houses)]
        slack = [int(other == at) for other in range(len(lots))]
        rows.append(borne + slack + [1])
    rows.append([-1] * houses + [0] * (len(lots) + 1))
    return rows


def entering(table):
    """The first column by which the sum grows, or None."""
    for column, number in enumerate(table[-1][:-1]):
        if number < 0:
            return column
    return None


def is_sooner(table, held, column, row, best):
    """Whether the row stops the column sooner than the best one so far."""
    left = table[row][-1] * table[best][column]
    right = table[best][-1] * table[row][column]
    # Of equal ones the least column, as then no exchange comes round again.
    return left < right or (left == right and held[row] < held[best])


def leaving(table, held, column):
    """The row that stops the column first; there is one if no house is free."""
    best = None
    for row in range(len(held)):
        if table[row][column] > 0 and (best is None or is_sooner(table, held, column, row, best)):
            best = row
    return best


def cleared_row(row, lead, column, bottom):
    """The row without the column; the division leaves no rest, as all are minors."""
    return [(lead[column] * own - row[column] * by) // bottom for own, by in zip(row, lead)]


def exchanged(table, row, column, bottom):
    """The table with the column in the place of the one that the row held."""
    lead = table[row]
    return [lead if at == row else cleared_row(own, lead, column, bottom) for at, own in enumerate(table)]


def held_number(table, held, column):
    """What the column comes to."""
    return table[held.index(column)][-1] if column in held else 0


def solved(houses, lots):
    """The tuple (sum, weights, cover, bottom), all to be divided by the bottom.

    No house is free.
    """
    table = first_table(houses, lots)
    held = [houses + at for at in range(len(lots))]
    bottom = 1
    column = entering(table)
    while column is not None:
        row = leaving(table, held, column)
        pivot = table[row][column]
        table = exchanged(table, row, column, bottom)
        held[row] = column
        bottom = pivot
        column = entering(table)
    weights = [held_number(table, held, house) for house in range(houses)]
    return (table[-1][-1], weights, table[-1][houses:-1], bottom)
