import unittest

from nets import DRAWINGS, STAR, chain_net, dense, grown, home_of, ones, renamed
from rimohms.drawing import check_net
from rimohms.measure import table_of
from rimohms.minors import circular_pairs, minor
from rimohms.paths import ways

# Two rows of inner nodes: 5 6 above 7 8; rim nodes 1, 2, 3, 4 clockwise at 5, 6, 8, 7.
SQUARE = (
    4,
    ((0,), (2,), (4,), (6,), (1, 8, 14), (3, 10, 9), (7, 15, 12), (5, 13, 11)),
    ones(8),
)
# Rim nodes 1, 3 and 4 at an inner node, and 1, 2 and 3 at another: a way from 1 over the other one to 3 leaves none for 2.
FORK = (4, ((2, 0), (4,), (8, 6), (10,), (1, 9, 11), (3, 5, 7)), ones(6))


def grid(wide, high):
    """Rows of inner nodes; rim nodes above each of the first row, and below each of the last row."""
    edges = []
    around = {}

    def join(one, other, side, far_side):
        dart = 2 * len(edges)
        edges.append((one, other))
        around.setdefault(one, {})[side] = dart
        around.setdefault(other, {})[far_side] = dart + 1

    for x in range(wide):
        join(("top", x), (x, 0), "down", "up")
        join(("bottom", x), (x, high - 1), "up", "down")
    for y in range(high):
        for x in range(wide):
            if x + 1 < wide:
                join((x, y), (x + 1, y), "right", "left")
            if y + 1 < high:
                join((x, y), (x, y + 1), "down", "up")
    rim = [("top", x) for x in range(wide)] + [("bottom", x) for x in reversed(range(wide))]
    inner = [(x, y) for y in range(high) for x in range(wide)]
    turns = [
        tuple(around[node][side] for side in ("up", "right", "down", "left") if side in around[node])
        for node in rim + inner
    ]
    return (2 * wide, tuple(turns), ones(len(edges)))


def subdivided(net):
    """The net with a new inner node in the middle of each edge."""
    rim, turns, amounts = net
    count = len(amounts)
    new = [tuple(2 * count + dart if dart % 2 else dart for dart in turn) for turn in turns]
    middles = [(2 * edge + 1, 2 * count + 2 * edge) for edge in range(count)]
    return (rim, tuple(new + middles), amounts + amounts)


class Ways(unittest.TestCase):
    def check_ways(self, net, heads, tails, found):
        """Holds the ways against the words of point [17]."""
        self.assertIs(type(found), tuple)
        self.assertEqual(tuple(way[0] for way in found), tuple(heads))
        self.assertEqual(sorted(way[-1] for way in found), sorted(tails))
        nodes = [node for way in found for node in way]
        self.assertEqual(len(set(nodes)), len(nodes))
        home = home_of(net)
        joined = {(home[dart], home[dart ^ 1]) for dart in home}
        for way in found:
            self.assertIs(type(way), tuple)
            for node in way[1:-1]:
                self.assertGreater(node, net[0])
            for step in zip(way, way[1:]):
                self.assertIn(step, joined)

    def check_all_pairs(self, net):
        table = table_of(net)
        none = some = 0
        for heads, tails in circular_pairs(net[0]):
            found = ways(net, heads, tails)
            self.assertEqual(found is None, minor(table, heads, tails) == (0, 1), (net, heads, tails))
            self.assertEqual(ways(net, heads, tails), found)
            if found is None:
                none += 1
            else:
                some += 1
                self.check_ways(net, heads, tails, found)
        return none, some

    def test_nets_of_this_file_are_drawings(self):
        for net in (SQUARE, FORK, grid(2, 2), grid(3, 3), grid(3, 4)):
            self.assertIsNone(check_net(net))
            self.assertIsNone(check_net(subdivided(net)))

    def test_by_hand(self):
        self.assertEqual(ways(STAR, (1,), (3,)), ((1, 4, 3),))
        self.assertEqual(ways(DRAWINGS["triangle"], (3,), (2,)), ((3, 2),))
        self.assertEqual(ways(chain_net(4), (1,), (2,)), ((1, 3, 4, 5, 2),))
        self.assertIsNone(ways((2, ((), ()), ()), (1,), (2,)))
        self.assertEqual(ways((4, ((0,), (2,), (3,), (1,)), ones(2)), (1, 2), (4, 3)), ((1, 4), (2, 3)))
        self.assertIsNone(ways((4, ((0,), (2,), (3,), (1,)), ones(2)), (4, 1), (3, 2)))

    def test_not_over_rim_nodes(self):
        # 1 - 2 - 3 in a row at the rim.
        row = (3, ((0,), (2, 1), (3,)), ones(2))
        self.assertIsNone(ways(row, (1,), (3,)))
        self.assertEqual(ways(row, (1,), (2,)), ((1, 2),))
        # Nor over another head or tail.
        row = (4, ((0,), (2, 1), (4, 3), (5,)), ones(3))
        self.assertIsNone(ways(row, (1, 2), (4, 3)))
        self.assertEqual(ways(row, (4, 1), (3, 2)), ((4, 3), (1, 2)))

    def test_one_node_for_two_ways(self):
        cross = (4, ((0,), (2,), (4,), (6,), (1, 3, 5, 7)), ones(4))
        self.assertIsNone(ways(cross, (1, 2), (4, 3)))
        self.assertEqual(ways(cross, (1,), (4,)), ((1, 5, 4),))

    def test_small_nets(self):
        for net in (*DRAWINGS.values(), SQUARE, FORK):
            self.check_all_pairs(net)
        self.assertEqual(self.check_all_pairs(SQUARE), (0, 8))

    def test_ways_that_are_given_up(self):
        # The first way must leave room for the others, whichever edge is looked at first.
        for seed in range(20):
            nets = [SQUARE, FORK, grid(2, 2), grid(3, 3), grid(3, 4)]
            for net in nets + [subdivided(net) for net in nets]:
                other = renamed(net, seed)
                half = net[0] // 2
                heads = tuple(range(1, half + 1))
                tails = tuple(range(net[0], half, -1))
                found = ways(other, heads, tails)
                self.assertIsNotNone(found)
                self.check_ways(other, heads, tails, found)

    def test_grown_nets(self):
        counts = [self.check_all_pairs(grown(1 + seed % 7, 2 + seed % 30, seed)) for seed in range(70)]
        counts += [
            self.check_all_pairs(subdivided(dense(1 + seed % 7, 3 + seed % 9, 9 + seed % 20, seed))) for seed in range(30)
        ]
        counts += [self.check_all_pairs(dense(1 + seed % 7, 3 + seed % 9, 9 + seed % 20, seed)) for seed in range(70)]
        self.assertGreater(sum(none for none, _ in counts), 300)
        self.assertGreater(sum(some for _, some in counts), 300)

    def test_sixty_edges(self):
        for seed in range(4):
            for net in (dense(7, 20 + seed, 60, seed), grown(7, 60, seed)):
                self.assertEqual(len(net[2]), 60)
                self.check_all_pairs(net)
        self.assertEqual(ways(chain_net(60), (1,), (2,)), ((1, *range(3, 62), 2),))


if __name__ == "__main__":
    unittest.main()
