"""The moves of point [20], done by the tests themselves, word by word, on nodes and edges that keep their names."""

import random
from fractions import Fraction


class Refused(Exception):
    """The move does not fit."""


class Board:
    """A net whose nodes and edges keep their numbers as names when others are taken away.

    A dart is a pair (edge, 0 or 1).
    """

    def __init__(self, net):
        self.rim = net[0]
        self.turns = {
            node: [divmod(dart, 2) for dart in turn] for node, turn in enumerate(net[1], start=1)
        }
        self.amounts = {edge: Fraction(*amount) for edge, amount in enumerate(net[2])}

    def net(self):
        """The numbers fall by what is missing before them."""
        number = {edge: at for at, edge in enumerate(sorted(self.amounts))}
        turns = tuple(
            tuple(2 * number[edge] + side for edge, side in self.turns[node]) for node in sorted(self.turns)
        )
        values = [self.amounts[edge] for edge in sorted(self.amounts)]
        return (self.rim, turns, tuple((value.numerator, value.denominator) for value in values))

    def home(self, dart):
        return next(node for node, turn in self.turns.items() if dart in turn)

    @staticmethod
    def other(dart):
        return (dart[0], 1 - dart[1])

    def ends(self, edge):
        if edge not in self.amounts:
            raise Refused
        return self.home((edge, 0)), self.home((edge, 1))

    def drop(self, edge):
        for turn in self.turns.values():
            turn[:] = [dart for dart in turn if dart[0] != edge]
        del self.amounts[edge]

    def place(self, old, new):
        """Puts darts in the place of a dart."""
        turn = self.turns[self.home(old)]
        at = turn.index(old)
        turn[at:at + 1] = new

    def inner(self, node, many):
        if node not in self.turns or node <= self.rim or len(self.turns[node]) != many:
            raise Refused
        return self.turns[node]

    def ahead(self, dart):
        """The dart clockwise behind this one, or None where the rim comes next."""
        node = self.home(dart)
        turn = self.turns[node]
        at = turn.index(dart) + 1
        if at < len(turn):
            return turn[at]
        return None if node <= self.rim else turn[0]


def loop(board, edge):
    one, other = board.ends(edge)
    if one != other:
        raise Refused
    board.drop(edge)


def loose(board, edge):
    for node in board.ends(edge):
        if node > board.rim and len(board.turns[node]) == 1:
            board.drop(edge)
            del board.turns[node]
            return
    raise Refused


def series(board, node):
    one, other = board.inner(node, 2)
    if one[0] == other[0]:
        raise Refused
    if one[0] > other[0]:
        one, other = other, one
    a, b = board.amounts[one[0]], board.amounts[other[0]]
    board.amounts[one[0]] = a * b / (a + b)
    del board.turns[node]
    board.place(board.other(other), [one])
    board.drop(other[0])


def parallel(board, kept, gone):
    ends, others = set(board.ends(kept)), set(board.ends(gone))
    if kept == gone or len(ends) != 2 or ends != others:
        raise Refused
    board.amounts[kept] += board.amounts[gone]
    board.drop(gone)


def star(board, node):
    p, q, r = board.inner(node, 3)
    corners = [board.home(board.other(dart)) for dart in (p, q, r)]
    if len(set(corners)) != 3 or node in corners:
        raise Refused
    edge_a, edge_b, edge_c = p[0], q[0], r[0]
    a, b, c = (board.amounts[edge] for edge in (edge_a, edge_b, edge_c))
    spots = [board.other(dart) for dart in (p, q, r)]
    del board.turns[node]
    # Other names first, so that a dart that is put in is not taken for one that has still to go.
    for spot, name in zip(spots, "xyz"):
        board.place(spot, [name])
    board.place("x", [(edge_c, 0), (edge_b, 1)])
    board.place("y", [(edge_a, 0), (edge_c, 1)])
    board.place("z", [(edge_b, 0), (edge_a, 1)])
    whole = a + b + c
    board.amounts[edge_a] = b * c / whole
    board.amounts[edge_b] = c * a / whole
    board.amounts[edge_c] = a * b / whole


def triangle(board, number):
    d = divmod(number, 2)
    if d[0] not in board.amounts:
        raise Refused
    e = board.ahead(board.other(d))
    f = None if e is None else board.ahead(board.other(e))
    if f is None or board.ahead(board.other(f)) != d or len({board.home(dart) for dart in (d, e, f)}) != 3:
        raise Refused
    edge_a, edge_b, edge_c = d[0], e[0], f[0]
    a, b, c = (board.amounts[edge] for edge in (edge_a, edge_b, edge_c))
    for dart in (d, e, f):
        board.place(board.other(dart), [])
    for dart, name in zip((d, e, f), "xyz"):
        board.place(dart, [name])
    board.place("x", [(edge_b, 0)])
    board.place("y", [(edge_c, 0)])
    board.place("z", [(edge_a, 0)])
    board.turns[max(board.turns) + 1] = [(edge_b, 1), (edge_a, 1), (edge_c, 1)]
    p = a * b + b * c + c * a
    board.amounts[edge_a] = p / a
    board.amounts[edge_b] = p / b
    board.amounts[edge_c] = p / c


def number(board):
    nodes = {node: node for node in range(1, board.rim + 1)}
    turns = {node: board.turns[node] for node in nodes}
    edges, names = {}, {}
    for new in range(1, len(board.turns) + 1):
        for dart in turns[new]:
            if dart[0] in edges:
                continue
            edges[dart[0]] = len(edges)
            names[dart] = (edges[dart[0]], 0)
            names[board.other(dart)] = (edges[dart[0]], 1)
            far = board.home(board.other(dart))
            if far not in nodes:
                nodes[far] = len(nodes) + 1
                turn = list(board.turns[far])
                while turn[0] != board.other(dart):
                    turn.append(turn.pop(0))
                turns[nodes[far]] = turn
    board.turns = {node: [names[dart] for dart in turn] for node, turn in turns.items()}
    board.amounts = {edges[edge]: amount for edge, amount in board.amounts.items()}


HAND = {
    "loop": loop,
    "loose": loose,
    "series": series,
    "parallel": parallel,
    "star": star,
    "triangle": triangle,
    "number": number,
}


def hand_move(net, move):
    """The net after a move, or None if it does not fit."""
    board = Board(net)
    try:
        HAND[move[0]](board, *move[1:])
    except Refused:
        return None
    return board.net()


def followed(net, moves):
    """The net after moves, or None if one of them does not fit or makes an edge more."""
    for move in moves:
        after = hand_move(net, move)
        if after is None or len(after[2]) > len(net[2]):
            return None
        net = after
    return net


def all_moves(net):
    """All moves with numbers that the net has, and with numbers below 0 and just beyond the last ones."""
    edges, nodes = len(net[2]), len(net[1])
    numbers = list(range(-3, edges + 2))
    moves = [("number",)]
    moves += [(kind, edge) for kind in ("loop", "loose") for edge in numbers]
    moves += [(kind, node) for kind in ("series", "star") for node in range(-3, nodes + 3)]
    moves += [("parallel", one, other) for one in numbers for other in numbers]
    moves += [("triangle", dart) for dart in range(-3, 2 * edges + 3)]
    return moves


def scrambled(net, seed, steps):
    """The net after stars and triangles."""
    chance = random.Random(seed)
    for _ in range(steps):
        moves = [move for move in all_moves(net) if move[0] in ("star", "triangle")]
        chance.shuffle(moves)
        for move in moves:
            after = hand_move(net, move)
            if after is not None:
                net = after
                break
    return net
