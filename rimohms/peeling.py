"""What can be taken off a table at the rim: edges between neighbours, and spikes.

It is reckoned in whole numbers, since sums and products of these need no
lowest terms. A whole table is a pair (rows, bottom): the rows of the table
with all signs turned about, as minors have them, times the bottom, which is
above 0.

The minors that something taken off makes less fall along a line: a minor that
is value at first is value - share * slope when a share is taken off. An edge
is a share of the amount 1 / bottom. A spike at node i is a share of the change
that takes entry i of row j times entry i of row k from entry k of each row j.
"""

from math import gcd, lcm

from rimohms.minors import circular_pairs
from rimohms.ratio import ZERO, ratio


def whole_table(table):
    """Returns the whole table of a table."""
    bottom = 1
    for row in table:
        for value in row:
            bottom = lcm(bottom, value[1])
    return ([[-top * (bottom // low) for top, low in row] for row in table], bottom)


def live_nodes(whole):
    """Returns the list of the rim nodes whose rows are not 0."""
    rows, _ = whole
    return [node for node, row in enumerate(rows, start=1) if row[node - 1] != 0]


def neighbours(nodes):
    """Returns the list of the pairs of a node and the next one clockwise, for the ascending list of the live nodes."""
    return list(zip(nodes, nodes[1:] + nodes[:1]))


def edge_off(whole, i, j):
    """Returns the greatest amount of an edge that can be taken out between two neighbours, 0 if none, and the rest."""
    rows, bottom = whole
    top, slope = least_share(edge_lines(rows, i, j))
    if top == 0:
        return ZERO, whole
    rest = [[slope * value for value in row] for row in rows]
    for row, column, change in ((i, i, top), (j, j, top), (i, j, -top), (j, i, -top)):
        rest[row - 1][column - 1] += change
    return ratio(top, slope * bottom), shortened(rest, slope * bottom)


def spike_off(whole, i):
    """Returns the greatest resistance of a spike that can be taken off at a live node, 0 if none, and the rest.

    Where there is no greatest one, returns None and the same whole table.
    """
    rows, bottom = whole
    share = least_share(spike_lines(rows, i))
    if share is None:
        return None, whole
    top, slope = share
    if top == 0:
        return ZERO, whole
    at_node = rows[i - 1]
    rest = [
        [slope * value - top * one * other for value, other in zip(row, at_node)]
        for row, one in zip(rows, at_node)
    ]
    return ratio(top * bottom, slope - top * at_node[i - 1]), shortened(rest, slope * bottom)


def edge_lines(rows, i, j):
    """Returns a list of pairs (value, slope): the minors that an edge between two neighbours taken out makes less."""
    lines = []
    for heads, tails in circular_pairs(len(rows)):
        for at, joint in enumerate(zip(heads, tails)):
            # Where the two nodes do not stand at the same place, a node with a row of 0 stands between them,
            # so that the minor is 0 with the edge and without it.
            if joint in ((i, j), (j, i)):
                slope = whole_minor(rows, heads[:at] + heads[at + 1:], tails[:at] + tails[at + 1:])
                lines.append((whole_minor(rows, heads, tails), slope))
    return lines


def spike_lines(rows, i):
    """Returns a list of pairs (value, slope): the minors that a spike taken off can make less."""
    at_node = rows[i - 1]
    changed = [[value - one * other for value, other in zip(row, at_node)] for row, one in zip(rows, at_node)]
    lines = []
    for heads, tails in circular_pairs(len(rows)):
        # A minor with the node itself only gets a factor above 1.
        if i not in heads and i not in tails:
            value = whole_minor(rows, heads, tails)
            lines.append((value, value - whole_minor(changed, heads, tails)))
    return lines


def least_share(lines):
    """Returns the share, a ratio, at which the first minor is 0, or None if none of them falls."""
    best = None
    for value, slope in lines:
        if slope > 0 and (best is None or value * best[1] < best[0] * slope):
            best = (value, slope)
    if best is None:
        return None
    return ratio(best[0], best[1])


def whole_minor(rows, heads, tails):
    """Returns the minor of the rows of a whole table, which have their signs turned about already."""
    return whole_determinant([[rows[head - 1][tail - 1] for tail in tails] for head in heads])


def whole_determinant(rows):
    """Returns the determinant of a square list of rows of a few whole numbers, along its first row."""
    if not rows:
        return 1
    value = 0
    for at, factor in enumerate(rows[0]):
        if factor != 0:
            part = factor * whole_determinant([row[:at] + row[at + 1:] for row in rows[1:]])
            value = value + part if at % 2 == 0 else value - part
    return value


def shortened(rows, bottom):
    """Returns the whole table of rows and a bottom, without a factor that all of them have in common."""
    common = bottom
    for row in rows:
        for value in row:
            common = gcd(common, value)
    return ([[value // common for value in row] for row in rows], bottom // common)
