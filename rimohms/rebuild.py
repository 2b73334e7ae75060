"""Rebuilds nets from their tables alone, from the rim inwards."""

from rimohms.errors import TableError
from rimohms.minors import refusal
from rimohms.peeling import edge_off, live_nodes, neighbours, spike_off, whole_table
from rimohms.ratio import ONE, ZERO, over


def greatest_edge(table, i, j):
    """Returns the greatest amount of an edge that can be taken out between neighbours, j behind i; 0 if none can."""
    amount, _ = edge_off(whole_table(table), i, j)
    return amount


def greatest_spike(table, i):
    """Returns the greatest resistance of a spike that can be taken off, 0 if none can, or None if none is greatest."""
    resistance, _ = spike_off(whole_table(table), i)
    return resistance


def rebuild(table):
    """Returns a net with a table and the fewest edges. Raises TableError if the table is refused."""
    if refusal(table) is not None:
        raise TableError("no net has this table")
    whole = whole_table(table)
    pieces = []
    while live_nodes(whole):
        piece, whole = piece_off(whole)
        pieces.append(piece)
    net = (len(table), ((),) * len(table), ())
    # What was taken off last lies innermost, so it is put in first.
    for piece in reversed(pieces):
        net = with_piece(net, piece)
    return net


def piece_off(whole):
    """Returns ("edge", i, j, amount) or ("spike", i, resistance) that can be taken off, and the rest.

    The whole table is that of a net. One with the fewest edges has an edge
    between neighbours, or a node with one edge alone that goes to an inner
    node; either is found, since just this much of it can be taken off.
    """
    nodes = live_nodes(whole)
    for i, j in neighbours(nodes):
        amount, rest = edge_off(whole, i, j)
        if amount != ZERO:
            return ("edge", i, j, amount), rest
    for i in nodes:
        resistance, rest = spike_off(whole, i)
        if resistance is not None and resistance != ZERO:
            return ("spike", i, resistance), rest
    raise TableError("no net has this table")


def with_piece(net, piece):
    """Returns the net with an edge or a spike put on at the rim."""
    if piece[0] == "edge":
        return with_rim_edge(net, piece)
    return with_spike(net, piece)


def with_rim_edge(net, piece):
    """Returns the net with an edge between two rim nodes, beside the rim, clockwise from i to j."""
    rim, turns, amounts = net
    _, i, j, amount = piece
    dart = 2 * len(amounts)
    changed = list(turns)
    changed[i - 1] = (dart, *turns[i - 1])
    changed[j - 1] = (*turns[j - 1], dart + 1)
    return (rim, tuple(changed), (*amounts, amount))


def with_spike(net, piece):
    """Returns the net in which a rim node has become an inner node behind a spike."""
    rim, turns, amounts = net
    _, i, resistance = piece
    dart = 2 * len(amounts)
    changed = [*turns, (dart + 1, *turns[i - 1])]
    changed[i - 1] = (dart,)
    return (rim, tuple(changed), (*amounts, over(ONE, resistance)))
