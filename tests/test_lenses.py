import unittest
from collections import Counter

from handmoves import hand_move
from nets import DRAWINGS, STAR, dense, icosahedron, octahedron, renamed
from rimohms.lenses import enclosed, lens_walls, shrinking_move, sides_of
from rimohms.netmap import next_in_disc
from rimohms.strands import has_fewest, strand_edges, strand_ends


def sizes(net):
    """The number of cells of each lens."""
    sides = sides_of(net)
    return sorted(len(enclosed(sides, walls)) for walls in lens_walls(net))


def tight_nets():
    """Nets that have neither loops nor parallel edges, loose ends nor inner nodes of two darts, but too many edges."""
    for rim in (1, 2, 3):
        yield from (octahedron(rim), icosahedron(rim))
    for seed in range(120):
        rim, turns, amounts = net = dense(1 + seed % 7, 8 + seed % 5, 30, seed)
        if min(len(turn) for turn in turns[rim:]) > 2 and not has_fewest(net):
            yield net


class Lenses(unittest.TestCase):
    def test_by_hand(self):
        self.assertEqual(lens_walls(STAR), [])
        self.assertEqual(sizes(DRAWINGS["series"]), [1])
        self.assertEqual(sizes(DRAWINGS["loop at the rim"]), [1])
        self.assertEqual(sizes(DRAWINGS["triple"]), [1, 1])
        # The twig's node alone, or with the face in the loop.
        self.assertEqual(sizes(DRAWINGS["loop around a twig"]), [1, 2])

    def test_closed_strands_may_begin_anywhere(self):
        closed = 0
        for net in [octahedron(1), octahedron(3), icosahedron(1)] + [dense(2, 9, 22, seed) for seed in range(8)]:
            closed += len(strand_edges(net)) - len(strand_ends(net))
            found = sizes(net)
            for seed in range(4):
                self.assertEqual(sizes(renamed(net, seed)), found)
        self.assertGreater(closed, 10)

    def test_lenses_meet_no_edge_twice(self):
        for net in [*DRAWINGS.values(), *[dense(1 + seed % 7, 9, 26, seed) for seed in range(20)]]:
            ahead = next_in_disc(net)
            for walls in lens_walls(net):
                ends = Counter(dart // 2 for wall in walls for dart in (wall, ahead[wall]))
                self.assertEqual(set(ends.values()), {2})

    def test_the_smallest_lens_loses_a_cell(self):
        many = 0
        for net in tight_nets():
            move = shrinking_move(net)
            after = hand_move(net, move)
            self.assertIsNotNone(after)
            self.assertEqual(min(sizes(after)), min(sizes(net)) - 1)
            many += 1
        self.assertGreater(many, 20)


if __name__ == "__main__":
    unittest.main()
