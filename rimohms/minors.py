"""Circular pairs, their minors, and what is wrong with a table that is the table of no net."""

from itertools import combinations

from rimohms.linear import determinant
from rimohms.ratio import ZERO, less, opposite, total


def circular_pairs(rim):
    """Returns a list of all circular pairs of a rim, each once."""
    found = []
    for many in range(2, rim + 1, 2):
        for spots in combinations(range(1, rim + 1), many):
            found.extend(pairs_on(spots))
    return found


def pairs_on(spots):
    """Returns the list of the circular pairs on a tuple of ascending rim nodes, an even number of them."""
    half = len(spots) // 2
    # The heads begin with the least node or, clockwise, with one of the last nodes before it,
    # and no farther back than that they reach it.
    begins = [0] + list(range(half + 1, len(spots)))
    orders = [spots[at:] + spots[:at] for at in begins]
    return [(order[:half], order[half:][::-1]) for order in orders]


def minor(table, heads, tails):
    """Returns the minor of a table for a circular pair."""
    return determinant([[opposite(table[head - 1][tail - 1]) for tail in tails] for head in heads])


def refusal(table):
    """Returns None, or something that is wrong with a square table."""
    wrong = wrong_mirror(table)
    if wrong is None:
        wrong = wrong_sum(table)
    if wrong is None:
        wrong = wrong_minor(table)
    return wrong


def wrong_mirror(table):
    """Returns ("mirror", i, j) for an entry that is not the same as its mirror image, or None."""
    for i, row in enumerate(table, start=1):
        for j, value in enumerate(row, start=1):
            if value != table[j - 1][i - 1]:
                return ("mirror", i, j)
    return None


def wrong_sum(table):
    """Returns ("sum", i) for a row that has not the sum 0, or None."""
    for i, row in enumerate(table, start=1):
        if total(list(row)) != ZERO:
            return ("sum", i)
    return None


def wrong_minor(table):
    """Returns ("minor", heads, tails) for a circular pair with a negative minor, or None."""
    for heads, tails in circular_pairs(len(table)):
        if less(minor(table, heads, tails), ZERO):
            return ("minor", heads, tails)
    return None
