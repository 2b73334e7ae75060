"""Tells whether a tuple is a drawing: a net that can be drawn in the disc."""

from rimohms.errors import NetError
from rimohms.netmap import joined_with, next_clockwise, other_dart
from rimohms.ratio import is_ratio

MOST_RIM_NODES = 7
MOST_EDGES = 60


def check_net(net):
    """Returns None. Raises NetError if the net is no drawing."""
    check_counts(net)
    check_amounts(net)
    check_darts(net)
    # Both of these go along darts, so they come behind the check of the darts; and counting faces
    # tells of crossings only if the drawing is in one piece, so check_joined comes first.
    check_joined(net)
    check_crossings(net)


def check_counts(net):
    """Raises NetError for a wrong number of rim nodes, turns or edges."""
    rim, turns, amounts = net
    if rim < 1 or rim > MOST_RIM_NODES:
        raise NetError("the rim has not 1 to 7 nodes")
    if len(turns) < rim:
        raise NetError("there are fewer turns than rim nodes")
    if len(amounts) > MOST_EDGES:
        raise NetError("there are more than 60 edges")


def check_amounts(net):
    """Raises NetError if an amount is no ratio above 0."""
    for edge, amount in enumerate(net[2]):
        if not is_ratio(amount) or amount[0] <= 0:
            raise NetError(f"the amount of edge {edge} is no ratio above 0")


def check_darts(net):
    """Raises NetError if not each dart of each edge stands once in the turns, and nothing else."""
    _, turns, amounts = net
    if sorted([dart for turn in turns for dart in turn]) != list(range(2 * len(amounts))):
        raise NetError("a dart is missing, stands twice or belongs to no edge")


def check_joined(net):
    """Raises NetError if an inner node is not joined with the rim."""
    rim, turns, _ = net
    if len(joined_with(net, list(range(1, rim + 1)))) < len(turns):
        raise NetError("an inner node is not joined with the rim")


def check_crossings(net):
    """Raises NetError if edges cross."""
    rim, turns, amounts = net
    edges = len(amounts) + rim
    if len(turns) - edges + face_count(turns_with_circle(net)) != 2:
        raise NetError("edges cross")


def turns_with_circle(net):
    """Returns the list of the turns with the circle as edges behind those of the net, one from each rim node on."""
    rim, turns, amounts = net
    first = 2 * len(amounts)
    closed = list(turns)
    for at in range(rim):
        to_next = first + 2 * at
        from_last = first + 2 * ((at - 1) % rim) + 1
        closed[at] = (to_next, *turns[at], from_last)
    return closed


def face_count(turns):
    """Returns the number of faces, the outside counted, of turns that know no rim."""
    ahead = next_clockwise(turns)
    seen = set()
    faces = 0
    for dart in ahead:
        if dart not in seen:
            faces += 1
        step = dart
        while step not in seen:
            seen.add(step)
            step = ahead[other_dart(step)]
    return faces
