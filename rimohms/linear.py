"""Determinants and linear equations, by elimination over ratios."""

from rimohms.ratio import ONE, ZERO, minus, opposite, over, times


def determinant(rows):
    """Returns the determinant of a square list of rows of ratios, 1 for no rows."""
    value = ONE
    work = [list(row) for row in rows]
    for at in range(len(rows)):
        found = pivot_place(work, at)
        if found is None:
            return ZERO
        if found != at:
            # Two rows that change places turn the sign about.
            value = opposite(value)
        work = swapped(work, at, found)
        value = times(value, work[at][at])
        work = [cleared(row, work[at], at) if k > at else row for k, row in enumerate(work)]
    return value


def solved(rows, right):
    """Returns the list of ratios x for which each row times x is the value of right at its place."""
    work = [[*row, value] for row, value in zip(rows, right)]
    for at in range(len(rows)):
        work = swapped(work, at, pivot_place(work, at))
        work = [row if k == at else cleared(row, work[at], at) for k, row in enumerate(work)]
    return [over(row[-1], row[at]) for at, row in enumerate(work)]


def pivot_place(rows, column):
    """Returns the place of a row, from number column on, that is not 0 in this column, or None."""
    for k in range(column, len(rows)):
        if rows[k][column] != ZERO:
            return k
    return None


def swapped(rows, one, other):
    """Returns the rows with two of them in each other's place."""
    out = list(rows)
    out[one], out[other] = rows[other], rows[one]
    return out


def cleared(row, pivot, column):
    """Returns the row less as much of the pivot row as makes it 0 in this column."""
    if row[column] == ZERO:
        return row
    share = over(row[column], pivot[column])
    return [minus(value, times(share, part)) for value, part in zip(row, pivot)]
