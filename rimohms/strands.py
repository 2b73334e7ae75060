"""Strands: curves that cross the edges of a net.

A crossing is a pair (dart, to_right): the strand goes along the edge of the
dart, away from the dart's node, and crosses it from left to right, or from
right to left if to_right is False. A strand is a pair (ends, crossings): the
pair of its places at the rim, the lesser one first, or None if it is closed,
and the list of its crossings in order.
"""

from rimohms.netmap import homes_of, next_in_disc, other_dart


def strand_ends(net):
    """Returns the tuple of the pairs (lesser place, greater place) of the strands that come to the rim, ascending."""
    return tuple([ends for ends, _ in strands_of(net) if ends is not None])


def strand_edges(net):
    """Returns a tuple with the edges that each strand crosses: those of strand_ends, then the closed ones."""
    return tuple([edges_crossed(crossings) for _, crossings in strands_of(net)])


def has_fewest(net):
    """Returns True if the net has the fewest edges of all nets with its table, otherwise False."""
    strands = strands_of(net)
    if any([ends is None for ends, _ in strands]):
        return False
    pairs = [(one, other) for (one, _), (other, _) in visits_of(strands).values()]
    return len(set(pairs)) == len(pairs) and all([one != other for one, other in pairs])


def edges_crossed(crossings):
    """Returns the tuple of the edges of a list of crossings."""
    return tuple([dart // 2 for dart, _ in crossings])


def visits_of(strands):
    """Returns a dict with the list of the two visits of each edge, in ascending order.

    A visit is a pair: the place of the strand in the list, and that of the crossing within the strand.
    """
    visits = {}
    for which, (_, crossings) in enumerate(strands):
        for at, edge in enumerate(edges_crossed(crossings)):
            visits.setdefault(edge, []).append((which, at))
    return visits


def strands_of(net):
    """Returns the list of all strands, first those that come to the rim, in ascending order."""
    ahead = next_in_disc(net)
    behind = {ahead[dart]: dart for dart in ahead if ahead[dart] is not None}
    found = rim_strands(net, ahead, behind)
    # A strand that is gone along the other way has the other darts, but crosses in the same directions.
    crossed = {(dart // 2, to_right) for _, crossings in found for dart, to_right in crossings}
    for edge in range(len(net[2])):
        for to_right in (False, True):
            if (edge, to_right) not in crossed:
                crossings = strand_from((2 * edge, to_right), ahead, behind)
                found.append((None, crossings))
                for dart, way in crossings:
                    crossed.add((dart // 2, way))
    return found


def rim_strands(net, ahead, behind):
    """Returns the list of the strands that come to the rim, each from its lesser place on."""
    home = homes_of(net)
    found = []
    reached = set()
    # Since places are gone through in ascending order, each strand is met at its lesser place first.
    for place in range(1, 2 * net[0] + 1):
        if place in reached:
            continue
        turn = net[1][(place - 1) // 2]
        if turn:
            crossings = strand_from(first_crossing(turn, place), ahead, behind)
            last = last_place(crossings, home)
        else:
            crossings = []
            last = place + 1
        reached.add(last)
        found.append(((place, last), crossings))
    return found


def first_crossing(turn, place):
    """Returns the first crossing of the strand from a place beside a rim node with this turn."""
    if place % 2 == 0:
        return (turn[0], True)
    return (turn[-1], False)


def last_place(crossings, home):
    """Returns the place at which a strand ends behind its last crossing."""
    dart, to_right = crossings[-1]
    node = home[other_dart(dart)]
    if to_right:
        return 2 * node
    return 2 * node - 1


def strand_from(crossing, ahead, behind):
    """Returns the list of the crossings from one on, until the rim comes next or the strand is back at it."""
    crossings = [crossing]
    further = next_crossing(crossing, ahead, behind)
    while further is not None and further != crossing:
        crossings.append(further)
        further = next_crossing(further, ahead, behind)
    return crossings


def next_crossing(crossing, ahead, behind):
    """Returns the crossing behind a crossing, or None if the rim comes next.

    ahead gives the next dart clockwise, behind the next one counterclockwise.
    """
    dart, to_right = crossing
    far = other_dart(dart)
    if to_right:
        step = behind.get(far)
    else:
        step = ahead[far]
    if step is None:
        return None
    return (step, not to_right)
