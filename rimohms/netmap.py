"""Ways through the drawing of a net: from dart to dart and from node to node."""


def other_dart(dart):
    """Returns the dart at the other end of the edge: 2 * k for 2 * k + 1, and the other way round."""
    return dart ^ 1


def next_clockwise(turns):
    """Returns a dict with the next dart clockwise for each dart: behind the last one of a turn comes its first one."""
    return {dart: turn[(at + 1) % len(turn)] for turn in turns for at, dart in enumerate(turn)}


def next_in_disc(net):
    """Returns a dict with the next dart clockwise for each dart, or None where the rim comes next."""
    rim, turns, _ = net
    ahead = next_clockwise(turns)
    for turn in turns[:rim]:
        if turn:
            ahead[turn[-1]] = None
    return ahead


def walk_left(ahead, dart):
    """Returns the list of the darts of left_face, for the dict of next_in_disc."""
    walk = [dart]
    step = ahead[other_dart(dart)]
    while step is not None and step != dart:
        walk.append(step)
        step = ahead[other_dart(step)]
    return walk


def comes_back(ahead, walk):
    """Returns True if a walk of walk_left came back to the dart it began with, False if it came to the rim."""
    return ahead[other_dart(walk[-1])] is not None


def left_face(net, dart):
    """Returns the tuple of the darts, from this one on, that the walk of the face to its left goes over."""
    return tuple(walk_left(next_in_disc(net), dart))


def homes_of(net):
    """Returns a dict with the node of each dart."""
    return {dart: node for node, turn in enumerate(net[1], start=1) for dart in turn}


def ends_of(net):
    """Returns a list with the pair of the nodes of the first and second dart of each edge."""
    home = homes_of(net)
    return [(home[2 * edge], home[2 * edge + 1]) for edge in range(len(net[2]))]


def joined_with(net, starts):
    """Returns a list of all nodes that edges join with nodes of a list, these among them."""
    ends = ends_of(net)
    reached = {node: True for node in starts}
    waiting = list(starts)
    while waiting:
        node = waiting.pop()
        for near in [end for dart in net[1][node - 1] for end in ends[dart // 2]]:
            if near not in reached:
                reached[near] = True
                waiting.append(near)
    return list(reached)
