"""Leads a net to one with the fewest edges."""

from rimohms.lenses import shrinking_move
from rimohms.moves import apply_move
from rimohms.netmap import ends_of
from rimohms.strands import has_fewest


def fewest(net):
    """Returns the tuple (moves, goal): a tuple of moves, and the net with the fewest edges to which they lead."""
    moves = []
    while not has_fewest(net):
        move = saving_move(net)
        # Only without loops and parallel edges does each star and each triangle have three different corners;
        # so an edge is saved first wherever one can be saved. Otherwise the smallest lens gets smaller.
        if move is None:
            move = shrinking_move(net)
        moves.append(move)
        net = apply_move(net, move)
    return (tuple(moves), net)


def saving_move(net):
    """Returns a move that takes an edge away, or None if there is none."""
    move = loop_move(net)
    if move is None:
        move = node_move(net)
    if move is None:
        move = parallel_move(net)
    return move


def loop_move(net):
    """Returns a move loop, or None if there is none."""
    for edge, (one, other) in enumerate(ends_of(net)):
        if one == other:
            return ("loop", edge)
    return None


def node_move(net):
    """Returns a move loose or series of a net without loops, or None if there is none."""
    rim, turns, _ = net
    for node, turn in enumerate(turns, start=1):
        if node > rim and len(turn) == 1:
            return ("loose", turn[0] // 2)
        if node > rim and len(turn) == 2:
            return ("series", node)
    return None


def parallel_move(net):
    """Returns a move parallel of a net without loops, or None if there is none."""
    first = {}
    for edge, ends in enumerate(ends_of(net)):
        pair = tuple(sorted(ends))
        if pair in first:
            return ("parallel", first[pair], edge)
        first[pair] = edge
    return None
