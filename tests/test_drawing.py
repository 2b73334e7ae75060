import random
import unittest
from itertools import permutations

from nets import DRAWINGS, STAR, chain_net, crosses, grown, ones, with_turn
from rimohms.drawing import check_net
from rimohms.errors import NetError, RimError


class Good(unittest.TestCase):
    def test_by_hand(self):
        for name, net in DRAWINGS.items():
            self.assertIsNone(check_net(net), name)

    def test_rims(self):
        for rim in range(1, 8):
            self.assertIsNone(check_net((rim, ((),) * rim, ())))
            if rim > 2:
                ring = tuple((2 * at, 2 * ((at - 1) % rim) + 1) for at in range(rim))
                self.assertIsNone(check_net((rim, ring, ones(rim))))

    def test_sixty_edges(self):
        self.assertIsNone(check_net(chain_net(60)))
        for seed in range(14):
            self.assertIsNone(check_net(grown(1 + seed % 7, 60, seed)))

    def test_grown(self):
        for seed in range(120):
            self.assertIsNone(check_net(grown(1 + seed % 7, seed % 61, seed)))

    def test_turns_of_inner_nodes_begin_anywhere(self):
        chance = random.Random(2)
        for seed in range(40):
            net = grown(1 + seed % 7, 20, seed)
            for node in range(net[0] + 1, len(net[1]) + 1):
                turn = net[1][node - 1]
                cut = chance.randrange(len(turn))
                net = with_turn(net, node, turn[cut:] + turn[:cut])
            self.assertIsNone(check_net(net))

    def test_long_amounts(self):
        net = (2, ((0,), (1,)), ((10 ** 299 + 1, 10 ** 299),))
        self.assertIsNone(check_net(net))


class Wrong(unittest.TestCase):
    def wrong(self, net):
        with self.assertRaises(NetError):
            check_net(net)

    def test_is_rim_error(self):
        with self.assertRaises(RimError):
            check_net((0, (), ()))

    def test_rim(self):
        for rim in (0, 8, -1, 100, -(10 ** 20), 10 ** 20):
            self.wrong((rim, ((),) * 8, ()))
        self.wrong((0, (), ()))
        self.wrong((8, ((),) * 8, ()))

    def test_fewer_turns(self):
        self.wrong((1, (), ()))
        self.wrong((3, ((), ()), ()))
        self.wrong((3, ((0,), (1,)), ones(1)))

    def test_more_than_sixty_edges(self):
        self.wrong(chain_net(61))
        self.wrong(chain_net(100))
        loops = tuple(range(122))
        self.assertIsNone(check_net((1, (loops[:120],), ones(60))))
        self.wrong((1, (loops,), ones(61)))

    def test_dart_left_out(self):
        for node in (1, 2, 3):
            self.wrong(with_turn(STAR, node, ()))
        self.wrong(with_turn(STAR, 4, (1, 3)))
        self.wrong((1, ((),), ones(1)))

    def test_dart_twice(self):
        self.wrong(with_turn(STAR, 1, (0, 0)))
        self.wrong(with_turn(STAR, 1, (0, 1)))
        self.wrong(with_turn(STAR, 4, (1, 3, 3)))
        self.wrong((2, ((0,), (0,)), ones(1)))

    def test_dart_at_another_node(self):
        # Twice, once at its own node; and moved to where its edge crosses another one.
        self.wrong(with_turn(STAR, 2, (2, 1)))
        self.wrong((4, ((0,), (2,), (1,), (3,)), ones(2)))
        self.assertIsNone(check_net((4, ((0,), (1,), (2,), (3,)), ones(2))))

    def test_dart_out_of_range(self):
        self.wrong(with_turn(STAR, 1, (6,)))
        self.wrong(with_turn(STAR, 1, (0, 6)))
        self.wrong((1, ((0,),), ()))
        self.wrong((1, ((0, 10 ** 30),), ones(1)))

    def test_negative_dart(self):
        self.wrong(with_turn(STAR, 1, (-1,)))
        self.wrong(with_turn(STAR, 1, (-6,)))
        self.wrong(with_turn(STAR, 1, (0, -1)))
        self.wrong((1, ((-1, -2),), ones(1)))

    def test_amounts(self):
        for amount in ((0, 1), (0, 2), (-1, 1), (-3, 2), (2, 4), (5, 5), (1, 0), (0, 0), (-1, 0), (1, -1), (-1, -1),
                       (-3, -2), (0, -1), (10 ** 300, 10 ** 299)):
            self.wrong((2, ((0,), (1,)), (amount,)))
            self.wrong((3, STAR[1], (STAR[2][0], STAR[2][1], amount)))

    def test_inner_node_without_darts(self):
        self.wrong((1, ((), ()), ()))
        self.wrong((3, STAR[1] + ((),), STAR[2]))

    def test_inner_nodes_joined_with_each_other_only(self):
        self.wrong((1, ((), (0,), (1,)), ones(1)))
        self.wrong((1, ((), (0, 1)), ones(1)))
        self.wrong((3, STAR[1] + ((6, 9), (8, 11), (10, 7)), ones(6)))

    def test_crossing_of_loops(self):
        self.assertIsNone(check_net((1, ((0, 1, 2, 3),), ones(2))))
        self.assertIsNone(check_net((1, ((0, 2, 3, 1),), ones(2))))
        self.wrong((1, ((0, 2, 1, 3),), ones(2)))
        # The same at an inner node, which dart 4 joins with the rim.
        self.assertIsNone(check_net((1, ((4,), (5, 0, 1, 2, 3)), ones(3))))
        self.wrong((1, ((4,), (5, 0, 2, 1, 3)), ones(3)))

    def test_crossing_at_the_rim(self):
        self.wrong((2, ((0, 2), (1, 3)), ones(2)))
        self.assertIsNone(check_net((2, ((0, 2), (3, 1)), ones(2))))
        self.wrong((4, ((0,), (2,), (1,), (3,)), ones(2)))
        self.wrong((4, ((0,), (), (1, 2), (3,)), ones(2)))

    def test_star_the_wrong_way_round(self):
        self.wrong(with_turn(STAR, 4, (5, 3, 1)))
        self.wrong(with_turn(STAR, 4, (3, 1, 5)))

    def test_all_chords(self):
        """Each way to put up to three edges at up to three rim nodes."""
        both = [0, 0]
        for edges, cuts in ((1, 3), (2, 3), (3, 2)):
            for order in permutations(range(2 * edges)):
                for first in range(2 * edges + 1):
                    for second in range(first, 2 * edges + 1) if cuts == 3 else (2 * edges,):
                        turns = (order[:first], order[first:second], order[second:])[:cuts]
                        net = (cuts, turns, ones(edges))
                        wrong = crosses(net)
                        both[wrong] += 1
                        self.assertIs(self.refused(net), wrong, net)
        self.assertGreater(min(both), 1000)

    def test_changed_drawings(self):
        """Two darts of a turn, or of two turns, change places."""
        chance = random.Random(8)
        both = [0, 0]
        for seed in range(400):
            net = grown(1 + seed % 7, 3 + seed % 9, seed)
            turns = [list(turn) for turn in net[1]]
            places = [(node, at) for node, turn in enumerate(turns) for at in range(len(turn))]
            (a, b), (c, d) = chance.sample(places, 2)
            turns[a][b], turns[c][d] = turns[c][d], turns[a][b]
            changed = (net[0], tuple(tuple(turn) for turn in turns), net[2])
            if self.joined(changed):
                wrong = crosses(changed)
                both[wrong] += 1
            else:
                wrong = True
            self.assertIs(self.refused(changed), wrong, changed)
        self.assertGreater(min(both), 50)

    @staticmethod
    def joined(net):
        rim, turns, _ = net
        label = {node: 0 if node < rim else node for node in range(len(turns))}
        home = {dart: node for node, turn in enumerate(turns) for dart in turn}
        for dart in home:
            one, other = label[home[dart]], label[home[dart ^ 1]]
            label = {node: min(one, other) if mark in (one, other) else mark for node, mark in label.items()}
        return all(mark == 0 for mark in label.values())

    @staticmethod
    def refused(net):
        try:
            check_net(net)
        except NetError:
            return True
        return False


class Again(unittest.TestCase):
    def test_again(self):
        for net in list(DRAWINGS.values()) + [chain_net(61), (2, ((0, 2), (1, 3)), ones(2))]:
            self.assertEqual(Wrong.refused(net), Wrong.refused(net))


if __name__ == "__main__":
    unittest.main()
