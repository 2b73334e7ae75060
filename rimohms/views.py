"""Other views of a net: turned, from behind, and its net of faces."""

from rimohms.errors import NetError
from rimohms.netmap import joined_with, next_in_disc, walk_left
from rimohms.ratio import ONE, over


def turned(net):
    """Returns the net with the rim nodes turned by one: rim node 2 becomes number 1, and number 1 the last one."""
    rim, turns, amounts = net
    return (rim, turns[1:rim] + turns[:1] + turns[rim:], amounts)


def mirrored(net):
    """Returns the net seen from behind: the last rim node becomes number 1, and every turn is reversed."""
    rim, turns, amounts = net
    order = turns[:rim][::-1] + turns[rim:]
    return (rim, tuple([turn[::-1] for turn in order]), amounts)


def dual(net):
    """Returns the net of faces of a net. Raises NetError if not all nodes are joined."""
    rim, turns, amounts = net
    if len(joined_with(net, [1])) < len(turns):
        raise NetError("not all nodes are joined")
    walks = face_walks(net)
    return (rim, tuple([tuple(walk[::-1]) for walk in walks]), tuple([over(ONE, amount) for amount in amounts]))


def face_walks(net):
    """Returns the list of the walks of all faces: those at the rim first, the others in the order of their least darts.

    Since all nodes are joined, each face comes to the rim once or not at all.
    """
    rim, turns, amounts = net
    ahead = next_in_disc(net)
    walks = [walk_left(ahead, turn[0]) if turn else [] for turn in turns[:rim]]
    walked = {dart for walk in walks for dart in walk}
    for dart in range(2 * len(amounts)):
        if dart not in walked:
            walk = walk_left(ahead, dart)
            walks.append(walk)
            for step in walk:
                walked.add(step)
    return walks
