import copy
import unittest

from handmoves import all_moves, hand_move
from nets import DRAWINGS, SERIES, STAR, chain_net, dense, grown, ones
from rimohms.drawing import check_net
from rimohms.errors import MoveError, RimError
from rimohms.measure import table_of
from rimohms.moves import apply_move, apply_moves, leads
from rimohms.netmap import left_face
from rimohms.numbering import numbered

TRIANGLE = DRAWINGS["triangle"]
WHEEL = DRAWINGS["wheel"]
# Rim nodes 1 and 2 at an inner node, with a loop on a twig from it.
TWIG_LOOP = (2, ((0,), (2,), (1, 3, 4), (5, 6, 7)), ((1, 1), (2, 1), (3, 1), (4, 1)))
# Both edges of node 2 go to rim node 1.
BACK = (1, ((0, 3), (1, 2)), ((1, 1), (3, 1)))
# Node 4 between rim node 1 and node 3, which has a loop.
BESIDE_LOOP = (2, ((4,), (6,), (1, 2, 3, 7), (5, 0)), ((1, 1), (2, 1), (3, 1), (4, 1)))
# Two of the edges of node 3 go to rim node 1.
DOUBLE_STAR = (2, ((2, 0), (4,), (5, 1, 3)), ones(3))
# Edges 0 and 2 join rim nodes 1 and 2, with edge 1 and a twig between them.
APART = (2, ((0, 2, 4), (5, 6, 3, 1), (7,)), ((1, 1), (2, 1), (3, 1), (1, 1)))
# A loop at rim node 1 with a twig in it, whose darts stand apart.
LOOP_APART = (2, ((4, 0, 2, 1), (5,), (3,)), ((7, 1), (2, 1), (3, 1)))
# A triangle of the rim nodes 1 and 2 and node 3; a twig stands beside rim node 1 outside of it.
CORNERS = (2, ((0, 5, 6), (2, 1), (4, 3), (7,)), ((1, 1), (2, 1), (3, 1), (5, 1)))
# A loop at node 2 on a twig from rim node 1.
TWO_CORNERS = (1, ((0,), (1, 2, 3)), ones(2))


def samples():
    yield from DRAWINGS.values()
    yield from (TWIG_LOOP, BACK, BESIDE_LOOP, DOUBLE_STAR, APART, LOOP_APART, CORNERS, TWO_CORNERS)
    for seed in range(36):
        yield grown(1 + seed % 7, 1 + seed % 14, seed)
    for seed in range(16):
        yield dense(1 + seed % 5, 4 + seed % 4, 14, seed)


class Refusing(unittest.TestCase):
    def refused(self, net, *moves):
        for move in moves:
            with self.assertRaises(MoveError) as caught:
                apply_move(net, move)
            self.assertIsInstance(caught.exception, RimError)
            self.assertIsInstance(caught.exception, ValueError)
            self.assertFalse(leads(net, (move,), net))


class Loop(Refusing):
    def test_side_by_side(self):
        self.assertEqual(apply_move(DRAWINGS["loop at the rim"], ("loop", 0)), (1, ((),), ()))
        self.assertEqual(apply_move(DRAWINGS["loop the other way"], ("loop", 0)), (1, ((),), ()))
        self.assertEqual(
            apply_move(DRAWINGS["loop at an inner node"], ("loop", 2)),
            (2, ((0,), (3,), (1, 2)), ((1, 1), (1, 2))),
        )
        self.assertEqual(
            apply_move(TWIG_LOOP, ("loop", 3)),
            (2, ((0,), (2,), (1, 3, 4), (5,)), ((1, 1), (2, 1), (3, 1))),
        )

    def test_apart(self):
        self.assertEqual(apply_move(LOOP_APART, ("loop", 0)), (2, ((2, 0), (3,), (1,)), ((2, 1), (3, 1))))
        self.assertEqual(apply_move(DRAWINGS["loop in a loop"], ("loop", 0)), (1, ((0, 1),), ones(1)))
        self.assertEqual(apply_move(DRAWINGS["loop in a loop"], ("loop", 1)), (1, ((0, 1),), ones(1)))

    def test_refused(self):
        self.refused(STAR, ("loop", 0), ("loop", 3), ("loop", -1), ("loop", -3))
        self.refused(LOOP_APART, ("loop", 1), ("loop", 3), ("loop", -3))
        self.refused((1, ((),), ()), ("loop", 0), ("loop", -1))


class Loose(Refusing):
    def test_at_the_rim(self):
        self.assertEqual(
            apply_move(LOOP_APART, ("loose", 1)), (2, ((2, 0, 1), (3,)), ((7, 1), (3, 1)))
        )
        self.assertEqual(apply_move((1, ((1,), (0,)), ones(1)), ("loose", 0)), (1, ((),), ()))

    def test_at_an_inner_node(self):
        twigs = DRAWINGS["twigs"]
        self.assertEqual(
            apply_move(twigs, ("loose", 3)),
            (2, ((0, 2, 4), (), (1,), (3,), (5,)), ((1, 1), (2, 1), (3, 1))),
        )
        self.assertEqual(
            apply_move(twigs, ("loose", 0)),
            (2, ((0, 2), (), (1, 4), (3,), (5,)), ((2, 1), (3, 1), (1, 4))),
        )

    def test_whole_twig(self):
        moves = [("loose", 3), ("loose", 1), ("loose", 0), ("loose", 0)]
        self.assertEqual(apply_moves(DRAWINGS["twigs"], moves), (2, ((), ()), ()))

    def test_refused(self):
        # A rim node with one dart is no loose end.
        self.refused((2, ((0,), (1,)), ones(1)), ("loose", 0), ("loose", 1), ("loose", -1))
        self.refused(STAR, ("loose", 0), ("loose", -1), ("loose", 3))
        self.refused(DRAWINGS["twigs"], ("loose", 1), ("loose", -1), ("loose", -4), ("loose", 4))
        self.refused(TWIG_LOOP, ("loose", 2), ("loose", 3))


class Series(Refusing):
    def test_at_the_rim(self):
        self.assertEqual(apply_move(SERIES, ("series", 3)), (2, ((0,), (1,)), ((1, 3),)))
        # The edge with the lesser number stays, and its dart at the node goes to the other end of the other edge.
        backward = (2, ((2,), (1,), (3, 0)), ((1, 1), (1, 2)))
        self.assertEqual(apply_move(backward, ("series", 3)), (2, ((0,), (1,)), ((1, 3),)))
        changed = (2, ((1,), (2,), (3, 0)), ((1, 1), (1, 2)))
        self.assertEqual(apply_move(changed, ("series", 3)), (2, ((1,), (0,)), ((1, 3),)))

    def test_to_another_inner_node(self):
        self.assertEqual(
            apply_move(chain_net(3), ("series", 4)), (2, ((0,), (3,), (1, 2)), ((1, 1), (1, 2)))
        )
        self.assertEqual(
            apply_move(chain_net(3), ("series", 3)), (2, ((0,), (3,), (1, 2)), ((1, 2), (1, 1)))
        )

    def test_both_edges_to_one_node(self):
        self.assertEqual(apply_move(BACK, ("series", 2)), (1, ((0, 1),), ((3, 4),)))

    def test_beside_a_loop(self):
        self.assertEqual(
            apply_move(BESIDE_LOOP, ("series", 4)),
            (2, ((0,), (4,), (1, 2, 3, 5)), ((3, 4), (2, 1), (4, 1))),
        )

    def test_refused(self):
        self.refused(SERIES, ("series", 1), ("series", 2), ("series", 4), ("series", 0), ("series", -1))
        self.refused(STAR, ("series", 4), ("series", -1))
        # A rim node with two darts, and one with a loop.
        self.refused(TRIANGLE, ("series", 1), ("series", -1), ("series", 0))
        self.refused(DRAWINGS["loop at the rim"], ("series", 1), ("series", 0))


class Parallel(Refusing):
    def test_both_orders(self):
        net = (2, ((0, 2), (3, 1)), ((1, 2), (2, 3)))
        self.assertEqual(apply_move(net, ("parallel", 0, 1)), (2, ((0,), (1,)), ((7, 6),)))
        self.assertEqual(apply_move(net, ("parallel", 1, 0)), (2, ((0,), (1,)), ((7, 6),)))
        other = (2, ((0, 3), (2, 1)), ((1, 2), (2, 3)))
        self.assertEqual(apply_move(other, ("parallel", 0, 1)), (2, ((0,), (1,)), ((7, 6),)))
        self.assertEqual(apply_move(other, ("parallel", 1, 0)), (2, ((1,), (0,)), ((7, 6),)))

    def test_apart(self):
        self.assertEqual(
            apply_move(APART, ("parallel", 0, 2)),
            (2, ((0, 2), (4, 3, 1), (5,)), ((4, 1), (2, 1), (1, 1))),
        )
        self.assertEqual(
            apply_move(APART, ("parallel", 2, 0)),
            (2, ((0, 2), (3, 4, 1), (5,)), ((2, 1), (4, 1), (1, 1))),
        )

    def test_refused(self):
        triple = DRAWINGS["triple"]
        self.refused(triple, *[("parallel", k, k) for k in range(-1, 4)])
        self.refused(triple, ("parallel", 0, 3), ("parallel", 3, 0), ("parallel", -1, 0), ("parallel", 0, -1))
        self.refused(STAR, ("parallel", 0, 1), ("parallel", 1, 2))
        # Loops at one node do not join two different nodes.
        self.refused(DRAWINGS["loop in a loop"], ("parallel", 0, 1), ("parallel", 1, 0))
        self.refused(TWIG_LOOP, ("parallel", 2, 3), ("parallel", 3, 2))
        self.refused(APART, ("parallel", 0, 3), ("parallel", 3, 1))


class Star(Refusing):
    def test_by_hand(self):
        star = (3, ((0,), (2,), (4,), (1, 3, 5)), ((1, 1), (2, 1), (3, 1)))
        self.assertEqual(
            apply_move(star, ("star", 4)),
            (3, ((4, 3), (0, 5), (2, 1)), ((1, 1), (1, 2), (1, 3))),
        )
        # The turn of the node begins elsewhere: A is edge 1, B edge 2, C edge 0.
        turned = (3, ((0,), (2,), (4,), (3, 5, 1)), ((1, 1), (2, 1), (3, 1)))
        self.assertEqual(
            apply_move(turned, ("star", 4)),
            (3, ((4, 3), (0, 5), (2, 1)), ((1, 1), (1, 2), (1, 3))),
        )

    def test_inner_corners(self):
        self.assertEqual(
            apply_move(WHEEL, ("star", 5)),
            (
                4,
                ((14, 9), (2,), (4,), (6,), (3, 10, 0, 15), (5, 12, 11), (7, 8, 1, 13)),
                ((5, 4), (1, 2), (1, 3), (1, 4), (5, 8), (3, 1), (4, 1), (1, 4)),
            ),
        )

    def test_refused(self):
        self.refused(DOUBLE_STAR, ("star", 3))
        self.refused(STAR, *[("star", node) for node in (-3, -2, -1, 0, 1, 2, 3, 5)])
        # A loop at the node, another number of darts, a rim node with three darts.
        self.refused(TWIG_LOOP, ("star", 4))
        self.refused(SERIES, ("star", 3))
        self.refused(DRAWINGS["one dart at a rim node"], ("star", 3), ("star", 4))
        self.refused((4, ((0, 2, 4), (5,), (3,), (1,)), ones(3)), ("star", 1), ("star", -3), ("star", 2))


class Triangle(Refusing):
    def test_by_hand(self):
        amounts = ((11, 1), (11, 2), (11, 3))
        self.assertEqual(apply_move(TRIANGLE, ("triangle", 1)), (3, ((2,), (4,), (0,), (5, 1, 3)), amounts))
        self.assertEqual(apply_move(TRIANGLE, ("triangle", 5)), (3, ((2,), (4,), (0,), (3, 5, 1)), amounts))
        self.assertEqual(apply_move(TRIANGLE, ("triangle", 3)), (3, ((2,), (4,), (0,), (1, 3, 5)), amounts))

    def test_other_darts_at_the_corners(self):
        self.assertEqual(
            apply_move(CORNERS, ("triangle", 1)),
            (2, ((2, 6), (4,), (0,), (7,), (5, 1, 3)), ((11, 1), (11, 2), (11, 3), (5, 1))),
        )

    def test_rim_at_a_corner(self):
        self.refused(TRIANGLE, ("triangle", 0), ("triangle", 2), ("triangle", 4))
        self.refused(CORNERS, ("triangle", 0), ("triangle", 2), ("triangle", 4), ("triangle", 6), ("triangle", 7))
        # Three darts and three nodes, but behind the last dart comes the rim.
        chain = chain_net(3)
        self.assertEqual(left_face(chain, 0), (0, 2, 4))
        self.refused(chain, *[("triangle", dart) for dart in range(6)])

    def test_corners_that_are_one_node(self):
        self.assertEqual(left_face(LOOP_APART, 1), (1, 2, 3))
        self.refused(LOOP_APART, ("triangle", 1), ("triangle", 2), ("triangle", 3))

    def test_faces_of_other_sizes(self):
        self.assertEqual(len(left_face(WHEEL, 9)), 4)
        self.refused(WHEEL, *[("triangle", dart) for dart in range(16)])
        self.refused(DRAWINGS["triple"], *[("triangle", dart) for dart in range(6)])

    def test_no_such_dart(self):
        self.refused(TRIANGLE, *[("triangle", dart) for dart in (-6, -5, -3, -1, 6, 7)])
        self.refused((1, ((),), ()), ("triangle", 0), ("triangle", -1))

    def test_star_and_triangle(self):
        """Point [22]."""
        many = 0
        for net in samples():
            for node in range(1, len(net[1]) + 1):
                if hand_move(net, ("star", node)) is None:
                    continue
                edge = net[1][node - 1][2] // 2
                after = apply_moves(net, [("star", node), ("triangle", 2 * edge + 1)])
                self.assertEqual(after[2], net[2])
                self.assertEqual(numbered(after), numbered(net))
                many += 1
        self.assertGreater(many, 20)


class Number(Refusing):
    def test_by_hand(self):
        row = (2, ((2,), (0,), (5, 1), (3, 4)), ((1, 1), (2, 1), (3, 1)))
        self.assertEqual(
            apply_move(row, ("number",)), (2, ((0,), (2,), (1, 4), (3, 5)), ((2, 1), (1, 1), (3, 1)))
        )
        self.assertEqual(apply_move((1, ((),), ()), ("number",)), (1, ((),), ()))


class Several(Refusing):
    def test_apply_moves(self):
        self.assertEqual(apply_moves(STAR, []), STAR)
        self.assertEqual(apply_moves(STAR, ()), STAR)
        after = STAR
        for move in (("star", 4), ("number",)):
            after = apply_move(after, move)
        self.assertEqual(apply_moves(STAR, [("star", 4), ("number",)]), after)
        self.assertEqual(apply_moves(STAR, (("star", 4), ("number",))), after)

    def test_moves_stay(self):
        moves = [("star", 4), ("number",)]
        kept = copy.deepcopy(moves)
        goal = apply_moves(STAR, moves)
        self.assertTrue(leads(STAR, moves, goal))
        self.assertEqual(moves, kept)
        self.assertEqual(apply_moves(STAR, moves), goal)

    def test_a_later_move_that_does_not_fit(self):
        for moves in ([("star", 4), ("star", 4)], [("star", 4), ("loop", 0), ("number",)]):
            with self.assertRaises(MoveError):
                apply_moves(STAR, moves)

    def test_leads(self):
        moves = [("star", 4), ("number",)]
        goal = apply_moves(STAR, moves)
        self.assertIs(leads(STAR, moves, goal), True)
        self.assertIs(leads(STAR, tuple(moves), goal), True)
        self.assertIs(leads(STAR, [], STAR), True)
        self.assertIs(leads(STAR, [], goal), False)
        self.assertIs(leads(STAR, moves[1:], goal), False)
        self.assertIs(leads(STAR, moves + [("loop", 0)], goal), False)
        self.assertIs(leads(STAR, [("loop", 0)] + moves, goal), False)
        # The darts of edges are changed about by the last move.
        self.assertNotEqual(apply_moves(STAR, moves[:1]), goal)
        self.assertIs(leads(STAR, moves[:1], goal), False)

    def test_leads_to_the_very_same_tuple_only(self):
        rim, turns, amounts = STAR
        begun_elsewhere = (rim, turns[:3] + ((3, 5, 1),), amounts)
        self.assertIs(leads(STAR, [], begun_elsewhere), False)
        self.assertIs(leads(begun_elsewhere, [("number",)], STAR), True)
        self.assertIs(leads(STAR, [("number",)], begun_elsewhere), False)
        self.assertIs(leads(STAR, [], (rim, turns, ((1, 1), (1, 1), (2, 1)))), False)
        self.assertIs(leads(STAR, [], (rim, turns + ((),), amounts)), False)


class WordByWord(Refusing):
    def test_all_numbers(self):
        done = {}
        for net in samples():
            table = table_of(net)
            for move in all_moves(net):
                expected = hand_move(net, move)
                if expected is None:
                    self.refused(net, move)
                    continue
                done[move[0]] = done.get(move[0], 0) + 1
                after = apply_move(net, move)
                self.assertEqual(after, expected, (net, move))
                self.assertIsNone(check_net(after))
                self.assertEqual(table_of(after), table)
                self.assertLessEqual(len(after[2]), len(net[2]))
                self.assertEqual(apply_move(net, move), after)
                self.assertTrue(leads(net, [move], after))
        self.assertEqual(len(done), 7)
        self.assertGreater(min(done.values()), 20, done)


if __name__ == "__main__":
    unittest.main()
