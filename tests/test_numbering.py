import unittest

from handmoves import hand_move
from nets import DRAWINGS, STAR, dense, grown, ones, renamed
from rimohms.drawing import check_net
from rimohms.measure import table_of
from rimohms.numbering import numbered


def samples():
    yield from DRAWINGS.values()
    for seed in range(40):
        yield grown(1 + seed % 7, seed % 31, seed)
    for seed in range(20):
        yield dense(1 + seed % 7, 5 + seed % 9, 28, seed)
    yield grown(7, 60, 3)


class Numbered(unittest.TestCase):
    def test_by_hand(self):
        self.assertEqual(numbered(STAR), (3, ((0,), (2,), (4,), (1, 3, 5)), ones(3)))
        # The star of the rim nodes 3, 2, 1 with its turn begun elsewhere, its darts changed about.
        star = (3, ((5,), (3,), (1,), (2, 0, 4)), ((3, 1), (2, 1), (1, 1)))
        self.assertEqual(numbered(star), (3, ((0,), (2,), (4,), (1, 3, 5)), ((1, 1), (2, 1), (3, 1))))
        # Two inner nodes between rim nodes 1 and 2: the one at rim node 1 becomes number 3.
        row = (2, ((2,), (0,), (5, 1), (3, 4)), ((1, 1), (2, 1), (3, 1)))
        self.assertEqual(numbered(row), (2, ((0,), (2,), (1, 4), (3, 5)), ((2, 1), (1, 1), (3, 1))))

    def test_nodes_in_the_order_of_new_numbers(self):
        # Rim node 2 comes before the inner nodes at rim node 1, and node 5, met at rim node 2, behind node 4.
        net = (2, ((4,), (0,), (6,), (2, 1), (3, 5, 7)), ((1, 1), (2, 1), (3, 1), (4, 1)))
        self.assertEqual(
            numbered(net),
            (2, ((0,), (2,), (1, 4, 6), (3, 7), (5,)), ((3, 1), (1, 1), (4, 1), (2, 1))),
        )

    def test_loop_at_an_inner_node(self):
        net = (2, ((4,), (1,), (3, 2, 0, 5)), ((1, 1), (2, 1), (3, 1)))
        self.assertEqual(numbered(net), (2, ((0,), (2,), (1, 4, 5, 3)), ((3, 1), (1, 1), (2, 1))))

    def test_parallel_edges(self):
        net = (2, ((3, 0), (1, 2)), ((1, 1), (2, 1)))
        self.assertEqual(numbered(net), (2, ((0, 2), (3, 1)), ((2, 1), (1, 1))))

    def test_rim_nodes_without_darts(self):
        net = (3, ((), (1,), (), (0,)), ((5, 1),))
        self.assertEqual(numbered(net), (3, ((), (0,), (), (1,)), ((5, 1),)))
        self.assertEqual(numbered((7, ((),) * 7, ())), (7, ((),) * 7, ()))

    def test_other_numbers_give_the_same_net(self):
        for net in samples():
            goal = numbered(net)
            for seed in range(6):
                self.assertEqual(numbered(renamed(net, seed)), goal)

    def test_twice(self):
        for net in samples():
            goal = numbered(net)
            self.assertEqual(numbered(goal), goal)
            self.assertEqual(numbered(net), goal)

    def test_word_by_word(self):
        for net in samples():
            goal = numbered(net)
            self.assertEqual(goal, hand_move(net, ("number",)))
            self.assertIsNone(check_net(goal))
            self.assertEqual(table_of(goal), table_of(net))
            self.assertEqual(sorted(goal[2]), sorted(net[2]))


if __name__ == "__main__":
    unittest.main()
