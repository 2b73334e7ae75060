"""New numbers for the inner nodes and the edges of a net."""

from rimohms.netmap import homes_of, other_dart


def numbered(net):
    """Returns the net after the move ("number",)."""
    rim, _, amounts = net
    turns, firsts = in_new_order(net)
    named = {}
    for edge, dart in enumerate(firsts):
        named[dart] = 2 * edge
        named[other_dart(dart)] = 2 * edge + 1
    new_turns = tuple([tuple([named[dart] for dart in turn]) for turn in turns])
    return (rim, new_turns, tuple([amounts[dart // 2] for dart in firsts]))


def in_new_order(net):
    """Returns the lists of the turns of all nodes and of the first darts of all edges, in their new order.

    The darts have their old numbers.
    """
    rim, old_turns, _ = net
    home = homes_of(net)
    turns = list(old_turns[:rim])
    met_nodes = {node: True for node in range(1, rim + 1)}
    firsts = []
    met_darts = set()
    at = 0
    # While nodes are gone through, new ones come behind the last one.
    while at < len(turns):
        turn = turns[at]
        for dart in turn:
            if dart in met_darts:
                continue
            far = other_dart(dart)
            firsts.append(dart)
            met_darts.add(dart)
            met_darts.add(far)
            if home[far] not in met_nodes:
                met_nodes[home[far]] = True
                turns.append(begun_with(old_turns[home[far] - 1], far))
        at += 1
    return turns, firsts


def begun_with(turn, dart):
    """Returns the turn of an inner node so that it begins with one of its darts."""
    at = turn.index(dart)
    return turn[at:] + turn[:at]
