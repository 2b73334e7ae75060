"""Ways through the drawing of a net: from dart to dart and from node to node."""


def other_dart(dart):
    """Returns the dart at the other end of the edge: 2 * k for 2 * k + 1, and the other way round."""
    return dart ^ 1


def next_clockwise(turns):
    """Returns a dict with the next dart clockwise for each dart: behind the last one of a turn comes its first one."""
    return {dart: turn[(at + 1) % len(turn)] for turn in turns for at, dart in enumerate(turn)}


def left_face(net, dart):
    """Returns the tuple of the darts, from this one on, that the walk of the face to its left goes over."""
    rim, turns, _ = net
    ahead = next_clockwise(turns)
    for turn in turns[:rim]:
        if turn:
            ahead[turn[-1]] = None
    walk = [dart]
    step = ahead[other_dart(dart)]
    while step is not None and step != dart:
        walk.append(step)
        step = ahead[other_dart(step)]
    return tuple(walk)


def ends_of(net):
    """Returns a list with the pair of the nodes of the first and second dart of each edge."""
    _, turns, amounts = net
    home = {dart: node for node, turn in enumerate(turns, start=1) for dart in turn}
    return [(home[2 * edge], home[2 * edge + 1]) for edge in range(len(amounts))]


def joined_with(net, starts):
    """Returns a list of all nodes that edges join with nodes of a list, these among them."""
    ends = ends_of(net)
    reached = {node: True for node in starts}
    waiting = list(starts)
    while waiting:
        node = waiting.pop()
        for near in [end for dart in net[1][node - 1] for end in ends[dart // 2]]:
            if near not in reached:
                reached[near] = True
                waiting.append(near)
    return list(reached)
