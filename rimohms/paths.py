"""Disjoint ways through a net.

The ways are found one after another. A new one may come to a node of an
earlier one; then it goes back along that one, which so gives up steps, until
it can leave it. The steps of the ways are kept in a dict `after` that gives
the next node for a node, and in a dict `before` the other way round.

A place of the search is a pair (node, free): free if the search may go on
from the node to any other one, not free if it came to a node of an earlier
way and has to go back along that way first.
"""

from rimohms.netmap import ends_of


def ways(net, heads, tails):
    """Returns a tuple of disjoint ways for a circular pair, in the order of the heads, or None if there are none."""
    near = near_nodes(net, tails)
    after = {}
    for head in heads:
        trail = trail_from(head, tails, near, after)
        if trail is None:
            return None
        after = with_trail(after, trail)
    return tuple([way_from(head, after) for head in heads])


def near_nodes(net, tails):
    """Returns a dict with the list of the inner nodes and tails to which an edge leads, for each node."""
    near = {node: [] for node in range(1, len(net[1]) + 1)}
    for one, other in ends_of(net):
        for node, far in ((one, other), (other, one)):
            if far > net[0] or far in tails:
                near[node].append(far)
    return near


def trail_from(head, tails, near, after):
    """Returns the list of the places from a head to a tail that is on no way yet, or None if none can be reached."""
    before = {after[node]: node for node in after}
    came = {(head, True): None}
    waiting = [(head, True)]
    while waiting:
        place = waiting.pop()
        for further in places_behind(place, near, after, before):
            if further not in came:
                came[further] = place
                waiting.append(further)
    for tail in tails:
        if (tail, True) in came:
            return trail_to((tail, True), came)
    return None


def places_behind(place, near, after, before):
    """Returns the list of the places to which the search can go from a place."""
    node, free = place
    if not free:
        return [(before[node], True)]
    found = [(far, far not in before) for far in near[node] if after.get(node) != far]
    # A step behind this node has been given up, so that the step to it can be given up, too.
    if node in before:
        found.append((node, False))
    return found


def trail_to(place, came):
    """Returns the list of the places from the beginning of the search to a place."""
    trail = []
    while place is not None:
        trail.append(place)
        place = came[place]
    return trail[::-1]


def with_trail(after, trail):
    """Returns the steps of the ways after the search has gone along a trail."""
    steps = list(zip(trail, trail[1:]))
    given_up = [further[0] for place, further in steps if not place[1]]
    changed = {node: after[node] for node in after if node not in given_up}
    for (node, free), (far, _) in steps:
        if free and node != far:
            changed[node] = far
    return changed


def way_from(head, after):
    """Returns the tuple of the nodes of the way from a head."""
    way = [head]
    while way[-1] in after:
        way.append(after[way[-1]])
    return tuple(way)
