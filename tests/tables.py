"""Tables for the tests, and reckonings with tables that use nothing of the program."""

from fractions import Fraction
from functools import lru_cache
from itertools import permutations

from nets import determinant_by_orders, pairs_of


@lru_cache(maxsize=None)
def pairs_by_words(rim):
    """All pairs of tuples that fit the words of point [15]."""
    found = []
    for k in range(1, rim // 2 + 1):
        for order in permutations(range(1, rim + 1), 2 * k):
            falls = [at for at in range(2 * k) if order[at] < order[at - 1]]
            # Around the rim from some node on, the numbers fall just once: from the last node to the first one.
            if len(falls) == 1 and min(order) in order[:k]:
                found.append((order[:k], order[:k - 1:-1]))
    return found


def hand_minor(table, heads, tails):
    return determinant_by_orders([[-Fraction(*table[i - 1][j - 1]) for j in tails] for i in heads])


def faults(table):
    """All that is wrong with a table, by the words of point [19]."""
    rim = len(table)
    values = [[Fraction(*value) for value in row] for row in table]
    found = [
        ("mirror", i + 1, j + 1) for i in range(rim) for j in range(rim) if values[i][j] != values[j][i]
    ]
    found += [("sum", i + 1) for i in range(rim) if sum(values[i]) != 0]
    found += [("minor", *pair) for pair in pairs_by_words(rim) if hand_minor(table, *pair) < 0]
    return found


def table_from(joints, rim):
    """The symmetric table with sums 0 that has these amounts between two rim nodes."""
    rows = [[Fraction(0)] * rim for _ in range(rim)]
    for (i, j), amount in joints.items():
        value = Fraction(amount)
        rows[i - 1][j - 1] -= value
        rows[j - 1][i - 1] -= value
        rows[i - 1][i - 1] += value
        rows[j - 1][j - 1] += value
    return tuple(tuple(pairs_of(row)) for row in rows)


def with_entry(table, i, j, value):
    rows = [list(row) for row in table]
    rows[i - 1][j - 1] = (value.numerator, value.denominator)
    return tuple(tuple(row) for row in rows)


def well_joined(rim):
    """The amounts 1 / ((j - i) * (rim + i - j)), with which all circular minors are above 0."""
    return {(i, j): Fraction(1, (j - i) * (rim + i - j)) for j in range(2, rim + 1) for i in range(1, j)}


def three_heads(rim, shift):
    """A table of 6 or 7 rows in which minors of three heads are below 0, and none of one or two heads.

    In a rim of 7 nodes, one is joined with nothing.
    """
    pair = ((1, 2, 3), (6, 5, 4))
    joints = well_joined(6)
    before = hand_minor(table_from(joints, 6), *pair)
    slope = hand_minor(table_from({**joints, (1, 5): joints[(1, 5)] + 1}, 6), *pair) - before
    joints[(1, 5)] += Fraction(101, 100) * before / -slope
    turned = {tuple(sorted((node + shift - 1) % rim + 1 for node in joint)): joints[joint] for joint in joints}
    return table_from(turned, rim)


def spread_out(table, rim, nodes):
    """The table of a rim with these nodes in the places of those of a smaller table, and rows of 0 for all others."""
    rows = [[(0, 1)] * rim for _ in range(rim)]
    for row, node in zip(table, nodes):
        for value, other in zip(row, nodes):
            rows[node - 1][other - 1] = value
    return tuple(tuple(row) for row in rows)


def without_edge(table, i, j, amount):
    """The rest by point [29] when an edge is taken out."""
    rows = [[Fraction(*value) for value in row] for row in table]
    for a, b, sign in ((i, i, -1), (j, j, -1), (i, j, 1), (j, i, 1)):
        rows[a - 1][b - 1] += sign * amount
    return tuple(tuple(pairs_of(row)) for row in rows)


def without_spike(table, i, resistance):
    """The rest by point [29] when a spike is taken off."""
    rows = [[Fraction(*value) for value in row] for row in table]
    line = rows[i - 1]
    share = resistance / (1 - resistance * line[i - 1])
    return tuple(
        tuple(pairs_of([value + share * one * other for value, other in zip(row, line)]))
        for row, one in zip(rows, line)
    )


def neighbours(table):
    """The pairs of neighbours by point [30], the second one clockwise behind the first one."""
    rim = len(table)
    live = [node for node in range(1, rim + 1) if any(top for top, _ in table[node - 1])]
    found = []
    for i in live:
        for j in live:
            between = [(i + step - 1) % rim + 1 for step in range(1, (j - i) % rim)]
            if i != j and not any(node in live for node in between):
                found.append((i, j))
    return found
