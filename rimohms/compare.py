"""Tells whether two nets have the same table, with an answer that can be checked."""

from rimohms.measure import table_of
from rimohms.moves import leads
from rimohms.standard import standard


def alike(first, second):
    """Returns ("alike", paper, paper) or ("unlike", i, j) for two nets with rims of one size."""
    entry_found = unlike_entry(table_of(first), table_of(second))
    if entry_found is None:
        return ("alike", standard(first), standard(second))
    return ("unlike", *entry_found)


def unlike_entry(table, other):
    """Returns the pair (i, j) of an entry in which two tables of one size differ, or None."""
    for i, (row, other_row) in enumerate(zip(table, other), start=1):
        for j, (value, other_value) in enumerate(zip(row, other_row), start=1):
            if value != other_value:
                return (i, j)
    return None


def judge(first, second, answer):
    """Returns True if an answer of one of the forms of alike is right for two nets, otherwise False."""
    kind, one, other = answer
    if kind == "unlike":
        return differs(first, second, one, other)
    # Moves keep the table, so papers with one goal tell that the tables are the same.
    return one[1] == other[1] and leads(first, *one) and leads(second, *other)


def differs(first, second, i, j):
    """Returns True if there is an entry j of row i, and the tables of two nets differ in it."""
    if min(i, j) < 1 or max(i, j) > first[0]:
        return False
    return table_of(first)[i - 1][j - 1] != table_of(second)[i - 1][j - 1]
