import time
import unittest

from handmoves import all_moves, followed, hand_move, scrambled
from nets import (
    DRAWINGS,
    STAR,
    all_joined,
    chain_net,
    dense,
    grown,
    home_of,
    icosahedron,
    interleaved,
    octahedron,
    ones,
    renamed,
    table_by_hand,
)
from rimohms.drawing import check_net
from rimohms.reduction import fewest
from rimohms.strands import has_fewest, strand_edges, strand_ends

SAVING = ("loop", "loose", "series", "parallel")
TWIGS = (1, ((0, 3, 4), (1,), (2,), (5,)), ones(3))


def saved_at_once(net):
    """The net after all moves that take an edge away and need no star or triangle before them."""
    while True:
        home = home_of(net)
        ends = [{home[2 * edge], home[2 * edge + 1]} for edge in range(len(net[2]))]
        moves = [
            move for move in all_moves(net)
            if move[0] in SAVING and (move[0] != "parallel" or is_pair(ends, *move[1:]))
        ]
        after = next((after for after in (hand_move(net, move) for move in moves) if after is not None), None)
        if after is None:
            return net
        net = after


def is_pair(ends, one, other):
    """True if two numbers are those of edges that join the same nodes."""
    return 0 <= one < other < len(ends) and ends[one] == ends[other]


class Fewest(unittest.TestCase):
    def check(self, net):
        moves, goal = fewest(net)
        self.assertIs(type(moves), tuple)
        self.assertEqual(followed(net, moves), goal)
        self.assertIsNone(check_net(goal))
        self.assertIs(has_fewest(goal), True)
        self.assertEqual(table_by_hand(goal), table_by_hand(net))
        # Each pair of strands that must cross needs one edge.
        self.assertEqual(len(goal[2]), interleaved(strand_ends(goal)))
        if len(goal[2]) == len(net[2]):
            self.assertEqual((moves, goal), ((), net))
        self.assertEqual(fewest(net), (moves, goal))
        return moves, goal

    def test_by_hand(self):
        self.assertEqual(self.check(STAR), ((), STAR))
        self.assertEqual(self.check(DRAWINGS["triangle"]), ((), DRAWINGS["triangle"]))
        self.assertEqual(self.check((1, ((),), ())), ((), (1, ((),), ())))
        self.assertEqual(self.check((7, ((),) * 7, ())), ((), (7, ((),) * 7, ())))
        _, goal = self.check(chain_net(30))
        self.assertEqual((goal[0], goal[2]), (2, ((1, 30),)))
        _, goal = self.check(DRAWINGS["triple"])
        self.assertEqual((goal[0], goal[2]), (2, ((37, 6),)))
        for name in ("loop at the rim", "two loops side by side", "loop in a loop", "loop around a twig", "twigs"):
            _, goal = self.check(DRAWINGS[name])
            self.assertEqual(goal, (goal[0], ((),) * goal[0], ()))

    def test_drawings(self):
        for net in DRAWINGS.values():
            self.check(net)

    def test_closed_strands(self):
        for rim in (1, 2, 3):
            for net in (octahedron(rim), icosahedron(rim), renamed(icosahedron(rim), rim)):
                self.assertIsNone(check_net(net))
                self.assertEqual(saved_at_once(net), net)
                self.assertGreater(len(strand_edges(net)), len(strand_ends(net)))
                _, goal = self.check(net)
                self.assertEqual(len(goal[2]), rim * (rim - 1) // 2)

    def test_one_kind_of_move_alone(self):
        for net, kind in (
            ((1, (tuple(range(60)),), ones(30)), "loop"),
            (TWIGS, "loose"),
            (chain_net(30), "series"),
            ((2, (tuple(range(0, 60, 2)), tuple(range(59, 0, -2))), ones(30)), "parallel"),
        ):
            moves, _ = self.check(net)
            self.assertEqual({move[0] for move in moves}, {kind})

    def test_grown_nets(self):
        for seed in range(90):
            self.check(grown(1 + seed % 7, seed % 31, seed))

    def test_dense_nets(self):
        for seed in range(70):
            edges = 12 + seed % 19
            self.check(dense(1 + seed % 7, edges * (35 + seed % 20) // 100, edges, seed))

    def test_renamed_nets(self):
        net = dense(4, 11, 30, 8)
        goals = [self.check(renamed(net, seed))[1] for seed in range(6)]
        self.assertEqual({len(goal[2]) for goal in goals}, {len(goals[0][2])})

    def test_stars_and_triangles_are_needed(self):
        needed = 0
        for seed in range(40):
            net = saved_at_once(dense(1 + seed % 7, 11 + seed % 3, 30, 200 + seed))
            moves, _ = self.check(net)
            if moves:
                self.assertIn(moves[0][0], ("star", "triangle"))
                needed += 1
        self.assertGreater(needed, 20)

    def test_scrambled_nets_with_the_fewest_edges(self):
        for seed in range(12):
            _, goal = self.check(dense(5 + seed % 3, 8, 28, seed))
            other = scrambled(goal, seed, 12)
            self.assertEqual(self.check(other), ((), other))

    def test_scrambled_nets_with_more(self):
        for seed in range(12):
            self.check(scrambled(dense(3 + seed % 5, 10, 27, 50 + seed), seed, 8))

    def test_all_minors_above_zero(self):
        # Point [25]: rim * (rim - 1) / 2 edges.
        for rim in range(2, 6):
            net = all_joined(rim)
            _, goal = self.check(net)
            self.assertEqual(len(goal[2]), rim * (rim - 1) // 2)

    def test_long_amounts(self):
        rim, turns, amounts = dense(4, 9, 24, 5)
        long = 10 ** 299 + 7
        self.check((rim, turns, tuple((long + k, long + k - 1) for k in range(len(amounts)))))

    def test_within_seconds(self):
        started = time.monotonic()
        for seed in range(10):
            fewest(dense(1 + seed % 7, 12, 30, 500 + seed))
            fewest(grown(1 + seed % 7, 30, 500 + seed))
        self.assertLess(time.monotonic() - started, 20)


if __name__ == "__main__":
    unittest.main()
