"""Moves: changes of a net that keep its table."""

from rimohms.errors import MoveError
from rimohms.netmap import comes_back, ends_of, homes_of, next_in_disc, other_dart, walk_left
from rimohms.numbering import numbered
from rimohms.ratio import over, plus, times, total


def apply_moves(net, moves):
    """Returns the net after the moves of a list or tuple, in order. Raises MoveError."""
    for move in moves:
        net = apply_move(net, move)
    return net


def leads(net, moves, goal):
    """Returns True if all moves fit in order and lead to the goal, the very same tuple; otherwise False."""
    try:
        reached = apply_moves(net, moves)
    except MoveError:
        return False
    return reached == goal


def do_loop(net, move):
    """Returns the net after ("loop", k). Raises MoveError."""
    edge = move[1]
    check_edge(net, edge)
    one, other = ends_of(net)[edge]
    if one != other:
        raise MoveError(f"edge {edge} is no loop")
    return without_edge(net, edge)


def do_loose(net, move):
    """Returns the net after ("loose", k). Raises MoveError."""
    edge = move[1]
    check_edge(net, edge)
    for node in ends_of(net)[edge]:
        if node > net[0] and len(net[1][node - 1]) == 1:
            return without_node(without_edge(net, edge), node)
    raise MoveError(f"edge {edge} has no loose end")


def do_series(net, move):
    """Returns the net after ("series", v). Raises MoveError."""
    node = move[1]
    turn = inner_turn(net, node, 2)
    kept, gone = sorted(turn)
    if kept // 2 == gone // 2:
        raise MoveError(f"node {node} has no two edges")
    one, other = [net[2][dart // 2] for dart in (kept, gone)]
    joint = over(times(one, other), plus(one, other))
    moved = with_darts(net, {kept: (), gone: (), other_dart(gone): (kept,)})
    return without_edge(without_node(with_amounts(moved, {kept // 2: joint}), node), gone // 2)


def do_parallel(net, move):
    """Returns the net after ("parallel", j, k). Raises MoveError."""
    _, kept, gone = move
    check_edge(net, kept)
    check_edge(net, gone)
    ends = ends_of(net)
    one, other = ends[kept]
    if kept == gone or one == other or sorted(ends[gone]) != sorted(ends[kept]):
        raise MoveError(f"edges {kept} and {gone} do not join the same two nodes")
    joint = plus(net[2][kept], net[2][gone])
    return without_edge(with_amounts(net, {kept: joint}), gone)


def do_star(net, move):
    """Returns the net after ("star", v). Raises MoveError."""
    node = move[1]
    darts = inner_turn(net, node, 3)
    home = homes_of(net)
    x, y, z = [home[other_dart(dart)] for dart in darts]
    if len({node, x, y, z}) != 4:
        raise MoveError(f"the edges of node {node} do not go to three different other nodes")
    p, q, r = darts
    edges = [dart // 2 for dart in darts]
    a, b, c = [2 * edge for edge in edges]
    moved = with_darts(net, {
        p: (), q: (), r: (),
        other_dart(p): (c, b + 1),
        other_dart(q): (a, c + 1),
        other_dart(r): (b, a + 1),
    })
    amounts = triangle_amounts([net[2][edge] for edge in edges])
    return without_node(with_amounts(moved, dict(zip(edges, amounts))), node)


def do_triangle(net, move):
    """Returns the net after ("triangle", d). Raises MoveError."""
    d, e, f = triangle_face(net, move[1])
    edges = [dart // 2 for dart in (d, e, f)]
    a, b, c = [2 * edge for edge in edges]
    moved = with_darts(net, {
        other_dart(d): (), other_dart(e): (), other_dart(f): (),
        d: (b,), e: (c,), f: (a,),
    })
    amounts = star_amounts([net[2][edge] for edge in edges])
    rim, turns, changed = with_amounts(moved, dict(zip(edges, amounts)))
    return (rim, (*turns, (b + 1, a + 1, c + 1)), changed)


def do_number(net, _):
    """Returns the net after ("number",)."""
    return numbered(net)


ACTIONS = {
    "loop": do_loop,
    "loose": do_loose,
    "series": do_series,
    "parallel": do_parallel,
    "star": do_star,
    "triangle": do_triangle,
    "number": do_number,
}


def apply_move(net, move):
    """Returns the net after a move. Raises MoveError."""
    action = ACTIONS.get(move[0])
    if action is None:
        raise MoveError("no move has this name")
    return action(net, move)


def check_edge(net, edge):
    """Raises MoveError if the net has no edge of this number."""
    if edge < 0 or edge >= len(net[2]):
        # A number that the net does not have may be longer than Python shows numbers.
        raise MoveError("there is no edge of this number")


def inner_turn(net, node, many):
    """Returns the turn of an inner node with this many darts. Raises MoveError if the node is no such node."""
    if node <= net[0] or node > len(net[1]):
        raise MoveError("there is no inner node of this number")
    turn = net[1][node - 1]
    if len(turn) != many:
        raise MoveError(f"node {node} has not {many} darts")
    return turn


def triangle_face(net, dart):
    """Returns the three darts of the face to the left of a dart. Raises MoveError if it is no triangle."""
    if dart < 0 or dart >= 2 * len(net[2]):
        raise MoveError("there is no dart of this number")
    ahead = next_in_disc(net)
    walk = walk_left(ahead, dart)
    if len(walk) != 3 or not comes_back(ahead, walk):
        raise MoveError(f"the face to the left of dart {dart} has not three darts")
    home = homes_of(net)
    if len({home[step] for step in walk}) != 3:
        raise MoveError(f"the face to the left of dart {dart} has not three nodes")
    return walk


def triangle_amounts(amounts):
    """Returns the list of the amounts of the edges opposite to those of a star."""
    a, b, c = amounts
    whole = total([a, b, c])
    return [over(times(one, other), whole) for one, other in ((b, c), (c, a), (a, b))]


def star_amounts(amounts):
    """Returns the list of the amounts of the edges opposite to those of a triangle."""
    a, b, c = amounts
    whole = total([times(a, b), times(b, c), times(c, a)])
    return [over(whole, amount) for amount in (a, b, c)]


def with_darts(net, changes):
    """Returns the net with the tuples of darts of a dict in the places of darts in the turns, all at once."""
    rim, turns, amounts = net
    changed = [tuple([new for dart in turn for new in changes.get(dart, (dart,))]) for turn in turns]
    return (rim, tuple(changed), amounts)


def with_amounts(net, changes):
    """Returns the net with the amounts of a dict for some of its edges."""
    rim, turns, amounts = net
    return (rim, turns, tuple([changes.get(edge, amount) for edge, amount in enumerate(amounts)]))


def without_edge(net, edge):
    """Returns the net without an edge; the greater numbers of edges fall by one, with their darts."""
    rim, turns, amounts = net
    left = [tuple([fallen(dart, edge) for dart in turn if dart // 2 != edge]) for turn in turns]
    return (rim, tuple(left), amounts[:edge] + amounts[edge + 1:])


def fallen(dart, edge):
    """Returns the number of a dart of another edge after an edge has been taken away."""
    if dart // 2 > edge:
        return dart - 2
    return dart


def without_node(net, node):
    """Returns the net without a node, which has no darts any more; the greater numbers of nodes fall by one."""
    rim, turns, amounts = net
    return (rim, turns[:node - 1] + turns[node:], amounts)
