"""Drawings for the tests, and reckonings that use nothing of the program."""

import math
import random
from fractions import Fraction
from itertools import permutations

ONE = (1, 1)


def ones(count):
    return (ONE,) * count


STAR = (3, ((0,), (2,), (4,), (1, 3, 5)), ones(3))
SERIES = (2, ((0,), (3,), (1, 2)), ((1, 1), (1, 2)))

# name: net. The faces of some of them are told in test_netmap.
DRAWINGS = {
    "star": STAR,
    "series": SERIES,
    "one rim node, no edges": (1, ((),), ()),
    "seven rim nodes, no edges": (7, ((),) * 7, ()),
    "triangle": (3, ((0, 5), (2, 1), (4, 3)), ((1, 1), (2, 1), (3, 1))),
    "triple": (2, ((0, 2, 4), (5, 3, 1)), ((1, 2), (2, 3), (5, 1))),
    "loop at the rim": (1, ((0, 1),), ((7, 2),)),
    "loop the other way": (1, ((1, 0),), ((7, 2),)),
    "two loops side by side": (1, ((0, 1, 2, 3),), ones(2)),
    "loop in a loop": (1, ((0, 2, 3, 1),), ones(2)),
    "loop at an inner node": (2, ((0,), (3,), (1, 4, 5, 2)), ((1, 1), (1, 2), (9, 1))),
    "loop around a twig": (1, ((0, 2, 1), (3,)), ones(2)),
    "twigs": (2, ((0, 2, 4), (), (1,), (3, 6), (5,), (7,)), ((1, 1), (2, 1), (3, 1), (1, 4))),
    "one dart at a rim node": (4, ((0,), (), (2, 1), (3,)), ((2, 3), (3, 5))),
    "two inner nodes twice": (2, ((0,), (7,), (1, 4, 2), (3, 5, 6)), ((1, 1), (1, 2), (1, 3), (1, 4))),
    "wheel": (
        4,
        ((0,), (2,), (4,), (6,), (1, 8, 15), (3, 10, 9), (5, 12, 11), (7, 14, 13)),
        ((1, 1), (1, 2), (1, 3), (1, 4), (2, 1), (3, 1), (4, 1), (5, 1)),
    ),
}


def with_turn(net, node, turn):
    """The net with another turn of a node."""
    rim, turns, amounts = net
    return (rim, turns[: node - 1] + (tuple(turn),) + turns[node:], amounts)


def home_of(net):
    return {dart: node for node, turn in enumerate(net[1], start=1) for dart in turn}


def chain_net(edges):
    """Rim node 1 joined with rim node 2 by a row of edges of the amount 1."""
    turns = [(0,), (2 * edges - 1,)]
    turns += [(2 * k - 1, 2 * k) for k in range(1, edges)]
    return (2, tuple(turns), ones(edges))


class Growing:
    """A drawing that grows by edges within its faces, found by corners alone."""

    def __init__(self, rim, seed):
        self.rim = rim
        self.turns = [[] for _ in range(rim)]
        self.amounts = []
        self.chance = random.Random(seed)

    def corners(self):
        """The corners (node, place), face by face: a dart put at this place of the turn goes into the face.

        At a rim node there is a corner before the first dart and one behind the last dart.
        """
        where = {dart: (node, place) for node, turn in enumerate(self.turns) for place, dart in enumerate(turn)}
        step = {}
        for node, turn in enumerate(self.turns):
            for place, dart in enumerate(turn):
                far, at = where[dart ^ 1]
                behind = at + 1
                if far >= self.rim and behind == len(self.turns[far]):
                    behind = 0
                step[(node, place)] = (far, behind)
            if node < self.rim:
                # From the corner behind the last dart the face goes on along the circle, counterclockwise.
                step[(node, len(turn))] = ((node - 1) % self.rim, 0)
        return self.cycles(step)

    @staticmethod
    def cycles(step):
        seen, faces = set(), []
        for corner in step:
            face = []
            while corner not in seen:
                seen.add(corner)
                face.append(corner)
                corner = step[corner]
            if face:
                faces.append(face)
        return faces

    def amount(self):
        value = Fraction(self.chance.randint(1, 12), self.chance.randint(1, 9))
        return (value.numerator, value.denominator)

    def grow(self):
        """One more edge: to a new inner node, between two corners of a face, or along an edge."""
        first = 2 * len(self.amounts)
        darts = [first, first + 1]
        self.chance.shuffle(darts)
        kind = self.chance.randrange(10)
        face = self.chance.choice(self.corners())
        one = self.chance.choice(face)
        if kind < 3:
            self.turns[one[0]].insert(one[1], darts[0])
            self.turns.append([darts[1]])
        elif kind < 5 and self.amounts:
            self.split(self.chance.randrange(first), darts)
        else:
            self.join(one, self.chance.choice(face), darts)
        self.amounts.append(self.amount())

    def split(self, dart, darts):
        """A new inner node on the edge of a dart."""
        for turn in self.turns:
            if dart in turn:
                turn[turn.index(dart)] = darts[0]
                break
        self.turns.append([dart, darts[1]])

    def join(self, one, other, darts):
        """An edge between two corners of a face; the later place of one turn is filled first."""
        for (node, place), dart in sorted(zip((one, other), darts), reverse=True):
            self.turns[node].insert(place, dart)

    def net(self):
        turns = [tuple(turn) for turn in self.turns]
        return (self.rim, tuple(turns), tuple(self.amounts))


def grown(rim, edges, seed):
    """A drawing with these many edges; the same one for the same numbers."""
    growing = Growing(rim, seed)
    for _ in range(edges):
        growing.grow()
    return growing.net()


def dense(rim, inner, edges, seed):
    """A drawing with these many inner nodes and up to these many edges, with neither loops nor parallel edges."""
    growing = Growing(rim, seed)
    chance = growing.chance
    for _ in range(inner):
        first = 2 * len(growing.amounts)
        node, place = chance.choice(chance.choice(growing.corners()))
        growing.turns[node].insert(place, first)
        growing.turns.append([first + 1])
        growing.amounts.append(growing.amount())
    while len(growing.amounts) < edges:
        home = {dart: node for node, turn in enumerate(growing.turns) for dart in turn}
        joined = {frozenset((home[dart], home[dart ^ 1])) for dart in home}
        options = [
            (one, other)
            for face in growing.corners()
            for one in face
            for other in face
            if one[0] != other[0] and frozenset((one[0], other[0])) not in joined
        ]
        if not options:
            break
        # Nodes of one or two darts are filled up first, since those make the net smaller too easily.
        weights = [1 / (1 + len(growing.turns[a[0]]) * len(growing.turns[b[0]])) ** 2 for a, b in options]
        one, other = chance.choices(options, weights)[0]
        darts = [2 * len(growing.amounts), 2 * len(growing.amounts) + 1]
        chance.shuffle(darts)
        growing.join(one, other, darts)
        growing.amounts.append(growing.amount())
    return growing.net()


def renamed(net, seed):
    """A grid of inner nodes with the rim nodes at its upper border: more edges than needed, but ways for all pairs."""
    rim, turns, amounts = net
    chance = random.Random(seed)
    new_edge = list(range(len(amounts)))
    chance.shuffle(new_edge)
    name = {}
    for edge, new in enumerate(new_edge):
        side = chance.randrange(2)
        name[2 * edge], name[2 * edge + 1] = 2 * new + side, 2 * new + 1 - side
    inner = []
    for turn in turns[rim:]:
        at = chance.randrange(len(turn))
        inner.append(turn[at:] + turn[:at])
    chance.shuffle(inner)
    new_turns = tuple(tuple(name[dart] for dart in turn) for turn in list(turns[:rim]) + inner)
    new_amounts = [None] * len(amounts)
    for edge, new in enumerate(new_edge):
        new_amounts[new] = amounts[edge]
    return (rim, new_turns, tuple(new_amounts))


def drawn(rim, points, edges):
    """The drawing with its nodes at points and straight edges between them, the rim nodes around the point (0, 0)."""
    angles = {}
    for edge, pair in enumerate(edges):
        for side, (one, other) in enumerate((pair, pair[::-1])):
            (x, y), (far_x, far_y) = points[one], points[other]
            outward = math.atan2(y, x) if one < rim else 0
            angles.setdefault(one, []).append(
                ((outward - math.atan2(far_y - y, far_x - x)) % (2 * math.pi), 2 * edge + side)
            )
    turns = tuple(tuple(dart for _, dart in sorted(angles.get(node, []))) for node in range(len(points)))
    return (rim, turns, tuple((1 + edge % 5, 1) for edge in range(len(edges))))


def around_middle(radius, *degrees):
    return [(radius * math.cos(math.radians(at)), radius * math.sin(math.radians(at))) for at in degrees]


def octahedron(rim):
    """Twelve edges; one to three of the nodes of the outer triangle are rim nodes."""
    points = around_middle(9, 90, -30, -150) + around_middle(1, 30, -90, 150)
    edges = [(0, 1), (1, 2), (2, 0), (3, 4), (4, 5), (5, 3)]
    edges += [(0, 5), (0, 3), (1, 3), (1, 4), (2, 4), (2, 5)]
    return drawn(rim, points, edges)


def icosahedron(rim):
    """Thirty edges; one to three of the nodes of the outer triangle are rim nodes."""
    points = around_middle(20, 90, -30, -150) + around_middle(3, 90, 30, -30, -90, -150, 150)
    points += around_middle(1, 30, -90, 150)
    edges = []
    for k in range(3):
        edges += [(k, (k + 1) % 3), (9 + k, 9 + (k + 1) % 3)]
        edges += [(k, 3 + (2 * k + step) % 6) for step in (-1, 0, 1)]
        edges += [(9 + k, 3 + (2 * k + step) % 6) for step in (0, 1, 2)]
    edges += [(3 + k, 3 + (k + 1) % 6) for k in range(6)]
    return drawn(rim, points, edges)


def all_joined(rim):
    """A grid of inner nodes with the rim nodes at its upper border: too many edges, but disjoint ways for all pairs."""
    edges, around = [], {}

    def join(one, other, side, far_side):
        around.setdefault(one, {})[side] = 2 * len(edges)
        around.setdefault(other, {})[far_side] = 2 * len(edges) + 1
        edges.append((one, other))

    for x in range(rim):
        join(("rim", x), (x, 0), "down", "up")
        for y in range(rim - 1):
            if x + 1 < rim:
                join((x, y), (x + 1, y), "right", "left")
            if y + 1 < rim - 1:
                join((x, y), (x, y + 1), "down", "up")
    nodes = [("rim", x) for x in range(rim)] + [node for node in around if node[0] != "rim"]
    sides = ("up", "right", "down", "left")
    turns = tuple(tuple(around[node][side] for side in sides if side in around[node]) for node in nodes)
    return (rim, turns, tuple((k + 1, 1) for k in range(len(edges))))


def ladder(sides, rungs):
    """A ladder of two rim nodes: resistors along one side, from rim node 1 on, and a rung behind each of them.

    The rungs are joined with each other, and with rim node 2, on the other side. The values are resistances.
    """
    count = len(sides)
    inner = []
    for k in range(count):
        # The rung goes to the other side, which lies clockwise of the way on.
        further = [4 * (k + 1)] if k + 1 < count else []
        inner.append((4 * k + 1, *further, 4 * k + 2))
    turns = ((0,), tuple(4 * k + 3 for k in range(count)), *inner)
    amounts = [1 / Fraction(value) for pair in zip(sides, rungs) for value in pair]
    return (2, turns, tuple(pairs_of(amounts)))


def inserted(turns, node, place, darts):
    """The turns with darts put into that of a node."""
    turns = list(turns)
    turn = turns[node - 1]
    turns[node - 1] = turn[:place] + tuple(darts) + turn[place:]
    return turns


def split_in_series(net, dart, share):
    """Another net with the same table: a new inner node on the edge of a dart, which parts its resistance."""
    rim, turns, amounts = net
    new = 2 * len(amounts)
    whole = Fraction(*amounts[dart // 2])
    changed = [tuple(new if step == dart else step for step in turn) for turn in turns]
    changed.append((dart, new + 1))
    kept, further = pairs_of([whole / share, whole / (1 - share)])
    return (rim, tuple(changed), amounts[:dart // 2] + (kept,) + amounts[dart // 2 + 1:] + (further,))


def split_side_by_side(net, edge, share):
    """Another net with the same table: a new edge beside an edge, which parts its amount."""
    rim, turns, amounts = net
    new = 2 * len(amounts)
    whole = Fraction(*amounts[edge])
    name = {2 * edge: (2 * edge, new), 2 * edge + 1: (new + 1, 2 * edge + 1)}
    changed = tuple(tuple(new for dart in turn for new in name.get(dart, (dart,))) for turn in turns)
    kept, beside = pairs_of([whole * share, whole * (1 - share)])
    return (rim, changed, amounts[:edge] + (kept,) + amounts[edge + 1:] + (beside,))


def with_loop(net, node, place, amount):
    """Another net with the same table: with a loop at a node."""
    rim, turns, amounts = net
    new = 2 * len(amounts)
    return (rim, tuple(inserted(turns, node, place, (new, new + 1))), amounts + (amount,))


def with_twig(net, node, place, amount):
    """Another net with the same table: with a new inner node that one edge joins with a node."""
    rim, turns, amounts = net
    new = 2 * len(amounts)
    return (rim, tuple(inserted(turns, node, place, (new,)) + [(new + 1,)]), amounts + (amount,))


def widened(net, seed, edges):
    """Another net with the same table, with so many edges more."""
    chance = random.Random(seed)
    for _ in range(edges):
        kind = chance.randrange(4)
        share = Fraction(chance.randint(1, 8), 9)
        node = chance.randint(1, len(net[1]))
        place = chance.randint(0, len(net[1][node - 1]))
        if kind == 0 and net[2]:
            net = split_in_series(net, chance.randrange(2 * len(net[2])), share)
        elif kind == 1 and net[2]:
            net = split_side_by_side(net, chance.randrange(len(net[2])), share)
        elif kind == 2:
            net = with_loop(net, node, place, (chance.randint(1, 9), 1))
        else:
            net = with_twig(net, node, place, (1, chance.randint(1, 9)))
    return net


def crosses(net):
    """True if edges cross, found by drawing inner nodes along an edge into the rim, until chords are left.

    A chord is a pair of places on the circle, clockwise; chords cross if their places alternate.
    The nodes must all be joined with the rim.
    """
    rim, turns, amounts = net
    turns = [list(turn) for turn in turns]
    inner = list(range(rim, len(turns)))
    while inner:
        home = {dart: node for node, turn in enumerate(turns) for dart in turn}
        node = next(v for v in inner if any(home[dart ^ 1] < rim for dart in turns[v]))
        dart = next(dart for dart in turns[node] if home[dart ^ 1] < rim)
        at = turns[node].index(dart)
        rest = turns[node][at + 1:] + turns[node][:at]
        rim_turn = turns[home[dart ^ 1]]
        place = rim_turn.index(dart ^ 1)
        rim_turn[place:place + 1] = rest
        turns[node] = []
        inner.remove(node)
    order = [dart for turn in turns[:rim] for dart in reversed(turn)]
    spans = {}
    for place, dart in enumerate(order):
        spans.setdefault(dart // 2, []).append(place)
    chords = [tuple(span) for span in spans.values()]
    return any(a < c < b < d for a, b in chords for c, d in chords)


def fractions_of(values):
    return [Fraction(*value) for value in values]


def pairs_of(values):
    return [(value.numerator, value.denominator) for value in values]


def laplacian(net):
    """Rows of Fractions: the currents out of each node, for a voltage 1 at one node and 0 at the others."""
    home = home_of(net)
    size = len(net[1])
    rows = [[Fraction(0)] * size for _ in range(size)]
    for edge, amount in enumerate(net[2]):
        i, j = home[2 * edge] - 1, home[2 * edge + 1] - 1
        value = Fraction(*amount)
        for at, to, sign in ((i, i, 1), (j, j, 1), (i, j, -1), (j, i, -1)):
            rows[at][to] += sign * value
    return rows


def eliminated(rows, places):
    """The rows after taking out places, each by elimination (Schur complement)."""
    rows = [list(row) for row in rows]
    size = len(rows)
    for v in places:
        for i in range(size):
            if i != v and rows[i][v] != 0:
                share = rows[i][v] / rows[v][v]
                rows[i] = [a - share * b for a, b in zip(rows[i], rows[v])]
    return rows


def table_by_hand(net):
    rim = net[0]
    rows = eliminated(laplacian(net), range(rim, len(net[1])))
    return tuple(tuple(pairs_of(row[:rim])) for row in rows[:rim])


def determinant_by_orders(rows):
    """The sum over all orders of the columns, for rows of Fractions."""
    value = Fraction(0)
    for order in permutations(range(len(rows))):
        sign = 1
        for i in range(len(order)):
            for j in range(i):
                if order[j] > order[i]:
                    sign = -sign
        product = Fraction(sign)
        for i, j in enumerate(order):
            product *= rows[i][j]
        value += product
    return value


def interleaved(ends):
    """How many pairs of strands must cross, by their places."""
    return sum(a < c < b < d for a, b in ends for c, d in ends)
