import unittest
from fractions import Fraction

from nets import DRAWINGS, STAR, chain_net, dense, grown, home_of, laplacian, ones
from rimohms.trees import forest_weight, tree_weight

# Two pieces, each with an inner node.
PIECES = (4, ((0,), (3,), (4,), (7,), (1, 2), (5, 6)), ((1, 1), (1, 2), (3, 1), (1, 1)))
# Rim node 2 has no dart; a loop, two parallel edges and a twig at the others.
MIXED = (
    3,
    ((0, 2), (), (5,), (1, 4, 6, 7, 8, 3), (9,)),
    ((2, 3), (1, 4), (5, 1), (7, 2), (3, 5)),
)


def set_by_set(net):
    """The weights of all rooted forests and of all trees, each set of edges looked at by itself."""
    rim, turns, amounts = net
    home = home_of(net)
    forests = trees = Fraction(0)
    for chosen in range(2 ** len(amounts)):
        piece = {node: node for node in range(1, len(turns) + 1)}
        weight, circle = Fraction(1), False
        for edge in range(len(amounts)):
            if chosen >> edge & 1:
                weight *= Fraction(*amounts[edge])
                one, other = piece[home[2 * edge]], piece[home[2 * edge + 1]]
                circle = circle or one == other
                piece = {node: other if name == one else name for node, name in piece.items()}
        if circle:
            continue
        names = list(piece.values())
        if len(set(names)) == 1:
            trees += weight
        roots = names[:rim]
        if len(set(roots)) == rim and set(names) == set(roots):
            forests += weight
    return pair(forests), pair(trees)


def pair(value):
    return (value.numerator, value.denominator)


def by_elimination(net, roots):
    """The product of the pivots of the rows of all other nodes."""
    whole = laplacian(net)
    places = [place for place in range(len(whole)) if place + 1 not in roots]
    rows = [[whole[i][j] for j in places] for i in places]
    value = Fraction(1)
    while rows and value != 0:
        first, value = rows[0], value * rows[0][0]
        rows = [[a - row[0] / first[0] * b for a, b in zip(row[1:], first[1:])] if row[0] else row[1:] for row in rows[1:]]
    return pair(value)


def samples():
    yield from DRAWINGS.values()
    yield from (PIECES, MIXED)
    for seed in range(50):
        yield grown(1 + seed % 7, seed % 9, seed)
    for seed in range(10):
        yield dense(1 + seed % 3, 3 + seed % 2, 8, seed)


class SetBySet(unittest.TestCase):
    def test_by_hand(self):
        self.assertEqual(forest_weight(STAR), (3, 1))
        self.assertEqual(tree_weight(STAR), (1, 1))
        series = (2, ((0,), (3,), (1, 2)), ((1, 3), (5, 2)))
        self.assertEqual(forest_weight(series), (17, 6))
        self.assertEqual(tree_weight(series), (5, 6))
        triangle = DRAWINGS["triangle"]
        self.assertEqual(forest_weight(triangle), (1, 1))
        self.assertEqual(tree_weight(triangle), (11, 1))
        self.assertEqual(tree_weight(DRAWINGS["triple"]), (37, 6))

    def test_empty_set(self):
        self.assertEqual(forest_weight((1, ((),), ())), (1, 1))
        self.assertEqual(tree_weight((1, ((),), ())), (1, 1))
        self.assertEqual(forest_weight((3, ((), (), ()), ())), (1, 1))
        self.assertEqual(tree_weight((3, ((), (), ()), ())), (0, 1))
        loop = (1, ((0, 1),), ((7, 2),))
        self.assertEqual((forest_weight(loop), tree_weight(loop)), ((1, 1), (1, 1)))

    def test_not_all_joined(self):
        self.assertEqual(tree_weight(PIECES), (0, 1))
        self.assertEqual(forest_weight(PIECES), (6, 1))
        self.assertEqual(tree_weight(MIXED), (0, 1))
        self.assertEqual(tree_weight((2, ((), (0,), (1,)), ones(1))), (0, 1))
        self.assertEqual(tree_weight((2, ((0,), (), (1,)), ones(1))), (0, 1))

    def test_all_sets(self):
        for net in samples():
            self.assertEqual((forest_weight(net), tree_weight(net)), set_by_set(net), net)

    def test_again(self):
        for net in (STAR, PIECES, MIXED):
            self.assertEqual(forest_weight(net), forest_weight(net))
            self.assertEqual(tree_weight(net), tree_weight(net))


class ManyEdges(unittest.TestCase):
    def test_against_elimination(self):
        nets = [grown(1 + seed % 7, 60, seed) for seed in range(7)]
        nets += [dense(1 + seed, 24 + seed, 60, seed) for seed in range(7)]
        for net in nets:
            self.assertEqual(forest_weight(net), by_elimination(net, list(range(1, net[0] + 1))))
            self.assertEqual(tree_weight(net), by_elimination(net, [1]))

    def test_chain(self):
        self.assertEqual(tree_weight(chain_net(60)), (1, 1))
        self.assertEqual(forest_weight(chain_net(60)), (60, 1))

    def test_many_parallel_edges(self):
        net = (2, (tuple(range(0, 120, 2)), tuple(range(119, 0, -2))), tuple((k, 7) for k in range(1, 61) if k % 7))
        count = len(net[2])
        net = (2, (tuple(range(0, 2 * count, 2)), tuple(range(2 * count - 1, 0, -2))), net[2])
        self.assertEqual(tree_weight(net), pair(sum(Fraction(*amount) for amount in net[2])))
        self.assertEqual(forest_weight(net), (1, 1))

    def test_long_amounts(self):
        long = 10 ** 299 + 33
        rim, turns, amounts = dense(3, 12, 30, 1)
        net = (rim, turns, tuple((long + 2 * k, long + 2 * k - 1) for k in range(len(amounts))))
        self.assertEqual(forest_weight(net), by_elimination(net, [1, 2, 3]))


if __name__ == "__main__":
    unittest.main()
