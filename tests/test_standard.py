import time
import unittest
from fractions import Fraction

from handmoves import followed, hand_move, scrambled
from nets import (
    DRAWINGS,
    SERIES,
    STAR,
    all_joined,
    chain_net,
    dense,
    grown,
    icosahedron,
    interleaved,
    octahedron,
    ones,
    renamed,
    split_in_series,
    split_side_by_side,
    table_by_hand,
    widened,
)
from rimohms.drawing import check_net
from rimohms.rebuild import rebuild
from rimohms.reduction import fewest
from rimohms.standard import arc_length, pushing_order, standard
from rimohms.strands import has_fewest, strand_edges, strand_ends
from tables import table_from, well_joined


class Standard(unittest.TestCase):
    def check(self, net):
        """The goal, after a check of all that is promised of one net alone."""
        moves, goal = found = standard(net)
        self.assertIs(type(found), tuple)
        self.assertIs(type(moves), tuple)
        self.assertEqual(followed(net, moves), goal)
        self.assertIsNone(check_net(goal))
        self.assertIs(has_fewest(goal), True)
        self.assertEqual(len(goal[2]), interleaved(strand_ends(goal)))
        self.check_pushed(goal)
        self.assertEqual(hand_move(goal, ("number",)), goal)
        self.assertEqual(table_by_hand(goal), table_by_hand(net))
        self.assertEqual(standard(net), found)
        return goal

    def check_pushed(self, goal):
        """Between each strand and the rim, no two of the strands that are pushed after it cross."""
        ends, edges = strand_ends(goal), strand_edges(goal)
        order = pushing_order(ends)
        for at, (which, to_left) in enumerate(order):
            low, high = ends[which]
            earlier = {edge for strand, _ in order[:at] for edge in edges[strand]}
            for other, _ in order[at + 1:]:
                common = set(edges[which]) & set(edges[other])
                if not common:
                    continue
                way = edges[other]
                if (low < ends[other][0] < high) != to_left:
                    way = way[::-1]
                before = way[:way.index(common.pop())]
                self.assertEqual(set(before) - earlier, set())

    def check_all(self, nets):
        """All of the nets have the very same goal, also that which rebuild makes of their table."""
        goals = [self.check(net) for net in nets]
        goals.append(self.check(rebuild(table_by_hand(nets[0]))))
        self.assertEqual(goals, [goals[0]] * len(goals))
        return goals[0]

    def test_by_hand(self):
        for net in ((1, ((),), ()), (7, ((),) * 7, ()), (2, ((0,), (1,)), ((5, 3),))):
            self.assertEqual(self.check(net), net)
        self.assertEqual(self.check_all([SERIES, (2, ((1,), (0,)), ((1, 3),))]), (2, ((0,), (1,)), ((1, 3),)))
        self.assertEqual(self.check_all([chain_net(30)]), (2, ((0,), (1,)), ((1, 30),)))
        self.assertEqual(self.check_all([DRAWINGS["triple"]]), (2, ((0,), (1,)), ((37, 6),)))
        third = ((1, 3),) * 3
        self.check_all([STAR, (3, ((0, 5), (2, 1), (4, 3)), third), (3, ((1, 3), (5, 0), (2, 4)), third)])

    def test_star_and_triangle_of_other_numbers(self):
        star = (3, STAR[1], ((1, 1), (2, 1), (3, 1)))
        nets = [star, hand_move(star, ("star", 4))]
        nets += [renamed(net, seed) for net in nets for seed in range(4)]
        self.check_all(nets)

    def test_drawings(self):
        for net in DRAWINGS.values():
            self.check_all([net])
        for rim in (1, 2, 3):
            for net in (octahedron(rim), icosahedron(rim)):
                self.check_all([net, renamed(net, rim)])

    def test_grown_and_dense_nets(self):
        for seed in range(50):
            self.check_all([grown(1 + seed % 7, seed % 31, 300 + seed)])
            self.check_all([dense(1 + seed % 7, 4 + seed % 8, 10 + seed % 21, 300 + seed)])

    def test_by_moves(self):
        for seed in range(30):
            net = dense(3 + seed % 5, 7 + seed % 3, 24, 60 + seed)
            nets = [net, scrambled(net, seed, 6), scrambled(net, seed + 1, 12), renamed(net, seed), fewest(net)[1]]
            self.check_all(nets)

    def test_by_edges_split_in_two(self):
        net = dense(5, 5, 14, 4)
        nets = [net]
        for edge in range(len(net[2])):
            nets.append(split_in_series(net, 2 * edge + edge % 2, Fraction(edge + 1, 20)))
            nets.append(split_side_by_side(net, edge, Fraction(1, edge + 2)))
        self.check_all(nets)

    def test_widened_nets(self):
        for seed in range(30):
            net = dense(1 + seed % 7, 5, 16, 80 + seed)
            nets = [net] + [widened(net, 10 * seed + k, 30 - len(net[2])) for k in range(3)]
            self.assertEqual({len(wide[2]) for wide in nets[1:]}, {30})
            self.check_all(nets)

    def test_nets_with_the_fewest_edges(self):
        flips = 0
        for rim in range(2, 8):
            net = rebuild(table_from(well_joined(rim), rim))
            nets = [net] + [renamed(scrambled(net, seed, 8 * rim), seed) for seed in range(8)]
            for other in nets:
                self.assertIs(has_fewest(other), True)
                moves, goal = standard(other)
                self.assertEqual(len(goal[2]), len(other[2]))
                self.assertEqual({move[0] for move in moves[:-1]} - {"star", "triangle"}, set())
                flips += len(moves) - 1
            goal = self.check_all(nets)
            self.assertEqual(self.check(goal), goal)
        self.assertGreater(flips, 100)

    def test_parts_and_rim_nodes_without_darts(self):
        for joints in (
            {(1, 2): 1, (3, 7): 2, (4, 6): 3},
            {(1, 5): 1, (1, 6): 1, (5, 6): 1, (2, 3): 1, (2, 4): 2, (3, 4): 3},
            {(2, 6): 1, (2, 7): 3, (6, 7): 2},
        ):
            net = rebuild(table_from(joints, 7))
            self.check_all([net] + [widened(scrambled(net, seed, 3), seed, 9) for seed in range(4)])

    def test_other_tables_have_other_goals(self):
        net = dense(5, 5, 14, 4)
        goals = {self.check((net[0], net[1], net[2][:k] + ((97, 89),) + net[2][k + 1:])) for k in range(14)}
        self.assertEqual(len(goals), 14)

    def test_thirty_edges_within_seconds(self):
        started = time.monotonic()
        for seed in range(10):
            for net in (dense(1 + seed % 7, 12, 30, 500 + seed), grown(1 + seed % 7, 30, 500 + seed)):
                standard(net)
        standard(all_joined(5))
        self.assertLess(time.monotonic() - started, 20)

    def test_long_amounts(self):
        rim, turns, _ = dense(6, 9, 24, 5)
        long = 10 ** 60 + 7
        net = (rim, turns, tuple((long + k, long + k - 1) for k in range(24)))
        self.check_all([net, widened(net, 1, 5)])


class Order(unittest.TestCase):
    def test_arcs(self):
        self.assertEqual(arc_length([1, 2, 3, 4], 1, 3), 2)
        self.assertEqual(arc_length([1, 2, 3, 4], 4, 1), 1)
        self.assertEqual(arc_length([2, 5, 9], 9, 5), 2)

    def test_no_strand_has_both_ends_on_the_side(self):
        for seed in range(40):
            ends = strand_ends(dense(1 + seed % 7, 6, 20, seed))
            order = pushing_order(ends)
            self.assertEqual(sorted(which for which, _ in order), list(range(len(ends))))
            for at, (which, to_left) in enumerate(order):
                low, high = ends[which]
                for other, _ in order[at + 1:]:
                    # The left side has the places from the lesser one to the greater one, clockwise.
                    on_side = [(low < place < high) == to_left for place in ends[other]]
                    self.assertNotEqual(on_side, [True, True])

    def test_star(self):
        self.assertEqual(pushing_order(strand_ends((3, ((0,), (2,), (4,), (1, 3, 5)), ones(3))))[0], (0, True))


if __name__ == "__main__":
    unittest.main()
