import unittest

from nets import DRAWINGS, SERIES, STAR, chain_net, dense, grown, icosahedron, interleaved, octahedron, ones
from rimohms.strands import has_fewest, strand_edges, strand_ends

TRIANGLE = DRAWINGS["triangle"]
# The edges between the neighbours of four rim nodes.
SQUARE = (4, ((0, 7), (2, 1), (4, 3), (6, 5)), ones(4))
# A ring of three nodes joined with the rim by one edge.
RING = (1, ((0,), (1, 2, 7), (4, 3), (6, 5)), ones(4))
# Two edges join the same inner nodes, and one of these with the rim.
PAIR = (1, ((0,), (1, 2, 5), (4, 3)), ones(3))


def traced(net):
    """The strands, found from the corners between darts that lie on each side of an edge.

    Around the middle of an edge with the darts a and b there are four corners: the one clockwise behind a, the one
    before b, the one behind b, the one before a. A strand goes straight on there: from behind a to behind b, and from
    before a to before b. The answer is a dict with the edges of each strand between two places, from the lesser one
    on, and a list with those of the closed strands.
    """
    rim, turns, amounts = net
    corner = {}
    places = {}
    open_ends = {}
    for node, turn in enumerate(turns, start=1):
        for at, dart in enumerate(turn):
            corner[(dart, "before")] = (node, at)
            corner[(dart, "behind")] = (node, at + 1 if node <= rim else (at + 1) % len(turn))
        if node <= rim and turn:
            places[(node, 0)] = 2 * node
            places[(node, len(turn))] = 2 * node - 1
        if node <= rim and not turn:
            open_ends[(2 * node - 1, 2 * node)] = ()
    links = {}
    for edge in range(len(amounts)):
        for side in ("before", "behind"):
            one, other = corner[(2 * edge, side)], corner[(2 * edge + 1, side)]
            links.setdefault(one, []).append((edge, side))
            links.setdefault(other, []).append((edge, side))
    used = set()

    def walk(spot):
        edges = []
        while True:
            ways = [link for link in links[spot] if link not in used]
            if not ways:
                return edges, spot
            edge, side = ways[0]
            used.add((edge, side))
            edges.append(edge)
            one, other = corner[(2 * edge, side)], corner[(2 * edge + 1, side)]
            spot = other if spot == one else one

    for spot in sorted(places, key=places.get):
        if any(link not in used for link in links[spot]):
            edges, last = walk(spot)
            open_ends[(places[spot], places[last])] = tuple(edges)
    closed = []
    for spot in links:
        if any(link not in used for link in links[spot]):
            closed.append(walk(spot)[0])
    return open_ends, closed


def canonical(edges):
    """The same for a closed strand from any of its edges and in either direction."""
    edges = tuple(edges)
    ways = [way[at:] + way[:at] for way in (edges, edges[::-1]) for at in range(len(edges))]
    return min(ways)


def samples():
    yield from DRAWINGS.values()
    yield from (SQUARE, RING, PAIR, chain_net(5))
    for rim in (1, 2, 3):
        yield from (octahedron(rim), icosahedron(rim))
    for seed in range(80):
        yield grown(1 + seed % 7, seed % 31, seed)
    for seed in range(60):
        yield dense(1 + seed % 7, 2 + seed % 12, 3 + seed % 28, seed)


class Strands(unittest.TestCase):
    def test_star(self):
        self.assertEqual(strand_ends(STAR), ((1, 4), (2, 5), (3, 6)))
        self.assertEqual(strand_edges(STAR), ((0, 1), (0, 2), (1, 2)))

    def test_by_hand(self):
        self.assertEqual(strand_ends(TRIANGLE), ((1, 4), (2, 5), (3, 6)))
        self.assertEqual(strand_edges(TRIANGLE), ((2, 1), (0, 1), (0, 2)))
        # One edge between two rim nodes, and two edges in a row.
        self.assertEqual(strand_ends((2, ((0,), (1,)), ones(1))), ((1, 3), (2, 4)))
        self.assertEqual(strand_edges((2, ((0,), (1,)), ones(1))), ((0,), (0,)))
        self.assertEqual(strand_ends(SERIES), ((1, 4), (2, 3)))
        self.assertEqual(strand_edges(SERIES), ((0, 1), (0, 1)))

    def test_rim_nodes_without_darts(self):
        self.assertEqual(strand_ends((1, ((),), ())), ((1, 2),))
        self.assertEqual(strand_edges((1, ((),), ())), ((),))
        net = (4, ((), (1,), (), (0,)), ones(1))
        self.assertEqual(strand_ends(net), ((1, 2), (3, 7), (4, 8), (5, 6)))
        self.assertEqual(strand_edges(net), ((), (0,), (0,), ()))

    def test_a_strand_that_crosses_an_edge_twice(self):
        loop = DRAWINGS["loop at the rim"]
        self.assertEqual((strand_ends(loop), strand_edges(loop)), (((1, 2),), ((0, 0),)))
        twig = (1, ((1,), (0,)), ones(1))
        self.assertEqual((strand_ends(twig), strand_edges(twig)), (((1, 2),), ((0, 0),)))

    def test_closed_strands(self):
        self.assertEqual(strand_ends(PAIR), ((1, 2),))
        first, closed = strand_edges(PAIR)
        self.assertEqual(first, (0, 1, 2, 0))
        self.assertEqual(sorted(closed), [1, 2])
        for rim in (1, 2, 3):
            self.assertEqual(len(strand_edges(octahedron(rim))), 4)
            self.assertEqual(len(strand_ends(octahedron(rim))), rim)
            self.assertEqual(len(strand_edges(icosahedron(rim))), 6)
        many = 0
        for net in samples():
            many += len(strand_edges(net)) - len(strand_ends(net))
        self.assertGreater(many, 20)

    def test_by_corners(self):
        for net in [*samples(), grown(7, 60, 1), dense(7, 24, 60, 1), dense(2, 26, 60, 2)]:
            self.check(net)

    def check(self, net):
        open_ends, closed = traced(net)
        ends, edges = strand_ends(net), strand_edges(net)
        self.assertEqual({type(ends), type(edges), *map(type, ends), *map(type, edges)}, {tuple})
        self.assertEqual(ends, tuple(sorted(open_ends)))
        self.assertEqual(edges[:len(ends)], tuple(open_ends[pair] for pair in ends))
        self.assertEqual(sorted(map(canonical, edges[len(ends):])), sorted(map(canonical, closed)))
        self.assertEqual(sorted(place for pair in ends for place in pair), list(range(1, 2 * net[0] + 1)))
        self.assertTrue(all(low < high for low, high in ends))
        crossed = sorted(edge for strand in edges for edge in strand)
        self.assertEqual(crossed, sorted(2 * list(range(len(net[2])))))
        self.assertEqual((strand_ends(net), strand_edges(net)), (ends, edges))


class HasFewest(unittest.TestCase):
    def test_nets_with_the_fewest_edges(self):
        for net in (STAR, TRIANGLE, SQUARE, (1, ((),), ()), (7, ((),) * 7, ()), (2, ((0,), (1,)), ones(1))):
            self.assertIs(has_fewest(net), True)

    def test_other_nets(self):
        names = [
            "series", "triple", "loop at the rim", "loop the other way", "two loops side by side", "loop in a loop",
            "loop at an inner node", "loop around a twig", "twigs", "two inner nodes twice",
        ]
        for name in names:
            self.assertIs(has_fewest(DRAWINGS[name]), False, name)
        self.assertIs(has_fewest(RING), False)
        self.assertIs(has_fewest(DRAWINGS["wheel"]), False)
        self.assertIs(has_fewest(chain_net(2)), False)

    def test_two_strands_that_cross_twice(self):
        found = [net for net in samples() if crossings_alone(net)]
        self.assertGreater(len(found), 3)
        for net in found:
            self.assertIs(has_fewest(net), False)

    def test_closed_strands(self):
        self.assertIs(has_fewest(PAIR), False)
        for net in samples():
            if traced(net)[1]:
                self.assertIs(has_fewest(net), False)

    def test_by_the_number_of_strands_that_must_cross(self):
        answers = []
        for net in samples():
            # Each pair of strands whose places alternate crosses at an edge or more, and no other need be.
            answers.append(has_fewest(net))
            self.assertIs(answers[-1], len(net[2]) == interleaved(traced(net)[0]))
            self.assertIs(has_fewest(net), answers[-1])
        self.assertGreater(answers.count(True), 8)
        self.assertGreater(answers.count(False), 30)


def crossings_alone(net):
    """True if no strand is closed and none crosses an edge twice, but two strands cross each other at two edges."""
    open_ends, closed = traced(net)
    strands = list(open_ends.values())
    if closed or any(len(set(edges)) < len(edges) for edges in strands):
        return False
    return any(len(set(one) & set(other)) > 1 for k, one in enumerate(strands) for other in strands[:k])


if __name__ == "__main__":
    unittest.main()
