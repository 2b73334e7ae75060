"""Standard nets: one and the same net for all nets with the same table.

The strands of a net with the fewest edges are pushed to the rim one after
another, until none of those that are left cross each other between the strand
and the rim. In the end the places of the strands alone tell the drawing, and
the drawing and the table tell the amounts.
"""

from rimohms.lenses import RIM, cell_move, side_count, sides_of, wall_between
from rimohms.moves import apply_move
from rimohms.numbering import numbered
from rimohms.reduction import fewest
from rimohms.strands import edges_crossed, strand_ends, strands_of


def standard(net):
    """Returns the tuple (moves, goal): a tuple of moves that lead the net to its standard net, and this net."""
    moves, reached = fewest(net)
    further, reached = pushed(reached)
    return ((*moves, *further, ("number",)), numbered(reached))


def pushed(net):
    """Returns a list of moves that push all strands of a net with the fewest edges to the rim, and the net then."""
    moves = []
    done = []
    for which, to_left in pushing_order(strand_ends(net)):
        move = pushing_move(net, which, to_left, done)
        while move is not None:
            moves.append(move)
            net = apply_move(net, move)
            move = pushing_move(net, which, to_left, done)
        done.append(which)
    return moves, net


def pushing_order(ends):
    """Returns a list of pairs (which, to_left): the strands in the order in which they are pushed, and to which side.

    The sides are seen along the strand from its lesser place on. No strand
    that is left has both ends on that side; so it crosses the pushed one if
    it has one there.
    """
    partner = {}
    number = {}
    for which, (low, high) in enumerate(ends):
        partner[low], partner[high] = high, low
        number[low] = number[high] = which
    places = sorted(partner)
    order = []
    while places:
        start = min(places, key=lambda place: arc_length(places, place, partner[place]))
        order.append((number[start], start < partner[start]))
        places = [place for place in places if number[place] != number[start]]
    return order


def arc_length(places, start, stop):
    """Returns how many steps clockwise it is from one place to another, among those that are left."""
    return (places.index(stop) - places.index(start)) % len(places)


def pushing_move(net, which, to_left, done):
    """Returns a move star or triangle that pushes a strand over a crossing to one side of it, or None if none does.

    No crossing of a strand that is done is moved, so that all stays as it is between that strand and the rim.
    """
    strands = strands_of(net)
    sides = sides_of(net)
    kept = [edge for strand in done for edge in edges_crossed(strands[strand][1])]
    crossings = strands[which][1]
    for one, other in zip(crossings, crossings[1:]):
        if one[0] // 2 in kept or other[0] // 2 in kept:
            continue
        node_side, face_side = sides[wall_between(one, other)]
        # Where a strand has crossed to the right of an edge, the node ahead lies to the left of it.
        cell = node_side if one[1] == to_left else face_side
        if cell != RIM and side_count(sides, cell) == 3:
            return cell_move(cell)
    return None
