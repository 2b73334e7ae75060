"""Finds the amounts for a drawing and a table, from the rim inwards.

The drawing loses its edges one by one, but all edges and nodes keep their
numbers; a node whose darts are gone has an empty turn.
"""

from rimohms.errors import NetError
from rimohms.minors import refusal
from rimohms.moves import with_darts
from rimohms.netmap import homes_of, other_dart
from rimohms.numbering import begun_with
from rimohms.peeling import edge_off, live_nodes, neighbours, spike_off, whole_table
from rimohms.ratio import ONE, ZERO, over
from rimohms.strands import has_fewest


def amounts_for(net, table):
    """Returns the tuple of amounts with which the drawing of the net has the table, or None if there are none.

    Raises NetError if the net has not the fewest edges.
    """
    if not has_fewest(net):
        raise NetError("the net has not the fewest edges")
    if refusal(table) is not None:
        return None
    whole = whole_table(table)
    found = {}
    while nodes_with_darts(net) and nodes_with_darts(net) == live_nodes(whole):
        edge, amount, net, whole = outer_edge_off(net, whole)
        if amount is None:
            return None
        found[edge] = amount
    if nodes_with_darts(net) or live_nodes(whole):
        return None
    return tuple([found[edge] for edge in range(len(found))])


def nodes_with_darts(net):
    """Returns the list of the rim nodes that have darts."""
    rim, turns, _ = net
    return [node for node, turn in enumerate(turns[:rim], start=1) if turn]


def outer_edge_off(net, whole):
    """Takes an edge at the rim out of a drawing, and as much as can be taken for it out of a table.

    Returns (edge, amount, drawing that is left, table that is left); the
    amount is None if nothing can be taken out of the table there.
    """
    # It must be as much as can be: with less taken out, all minors above 0 stay above 0,
    # and then a drawing with an edge less cannot have the table that is left.
    joint = rim_joint(net)
    if joint is None:
        return spike_edge_off(net, whole, spike_node(net))
    return rim_edge_off(net, whole, joint)


def rim_edge_off(net, whole, joint):
    """Returns what outer_edge_off returns, for the edge beside the rim between two neighbours."""
    i, j = joint
    dart = net[1][i - 1][0]
    amount, rest = edge_off(whole, i, j)
    if amount == ZERO:
        amount = None
    return dart // 2, amount, with_darts(net, {dart: (), other_dart(dart): ()}), rest


def spike_edge_off(net, whole, node):
    """Returns what outer_edge_off returns, for the only edge of a rim node, which goes to an inner node."""
    edge = net[1][node - 1][0] // 2
    resistance, rest = spike_off(whole, node)
    amount = None
    if resistance is not None and resistance != ZERO:
        amount = over(ONE, resistance)
    return edge, amount, without_spike(net, node), rest


def rim_joint(net):
    """Returns a pair (i, j) of neighbours that an edge beside the rim joins, j behind i clockwise, or None."""
    for i, j in neighbours(nodes_with_darts(net)):
        if net[1][i - 1][0] == other_dart(net[1][j - 1][-1]):
            return (i, j)
    return None


def spike_node(net):
    """Returns a rim node whose only edge goes to an inner node, or None."""
    home = homes_of(net)
    for node in nodes_with_darts(net):
        turn = net[1][node - 1]
        if len(turn) == 1 and home[other_dart(turn[0])] > net[0]:
            return node
    return None


def without_spike(net, node):
    """Returns the drawing in which a rim node has come to the inner node to which its only edge goes."""
    rim, turns, amounts = net
    far = other_dart(turns[node - 1][0])
    inner = homes_of(net)[far]
    changed = list(turns)
    changed[node - 1] = begun_with(turns[inner - 1], far)[1:]
    changed[inner - 1] = ()
    return (rim, tuple(changed), amounts)
