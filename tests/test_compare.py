import unittest
from fractions import Fraction

from handmoves import all_moves, followed, hand_move, scrambled
from nets import (
    DRAWINGS,
    SERIES,
    STAR,
    dense,
    grown,
    icosahedron,
    ones,
    renamed,
    split_in_series,
    split_side_by_side,
    table_by_hand,
    widened,
    with_loop,
    with_twig,
)
from rimohms.compare import alike, judge
from rimohms.moves import apply_moves
from rimohms.rebuild import rebuild

TRIANGLE = (3, ((0, 5), (2, 1), (4, 3)), ((1, 3),) * 3)


def changed_amount(net, edge):
    rim, turns, amounts = net
    value = Fraction(*amounts[edge]) + Fraction(1, 7)
    return (rim, turns, amounts[:edge] + ((value.numerator, value.denominator),) + amounts[edge + 1:])


def paper_holds(net, paper):
    moves, goal = paper
    return followed(net, moves) == goal


class Alike(unittest.TestCase):
    def check(self, first, second):
        answer = alike(first, second)
        self.assertIs(type(answer), tuple)
        tables = table_by_hand(first), table_by_hand(second)
        if tables[0] == tables[1]:
            kind, paper, other = answer
            self.assertEqual(kind, "alike")
            self.assertTrue(paper_holds(first, paper))
            self.assertTrue(paper_holds(second, other))
            self.assertEqual(paper[1], other[1])
        else:
            kind, i, j = answer
            self.assertEqual(kind, "unlike")
            self.assertGreaterEqual(min(i, j), 1)
            self.assertNotEqual(tables[0][i - 1][j - 1], tables[1][i - 1][j - 1])
        self.assertEqual(alike(first, second), answer)
        self.assertIs(judge(first, second, answer), True)
        return answer

    def test_by_hand(self):
        self.assertEqual(self.check(STAR, TRIANGLE)[0], "alike")
        self.assertEqual(self.check(SERIES, (2, ((1,), (0,)), ((1, 3),)))[0], "alike")
        self.assertEqual(self.check(STAR, DRAWINGS["triangle"])[0], "unlike")
        self.assertEqual(self.check((1, ((),), ()), (1, ((0, 1),), ones(1)))[0], "alike")
        self.assertEqual(self.check((2, ((), ()), ()), (2, ((0,), (1,)), ones(1)))[0], "unlike")
        # The tables differ in two entries of each of two rows alone.
        one = (4, ((0,), (1,), (2,), (3,)), ones(2))
        other = (4, ((0,), (1,), (2,), (3,)), ((1, 1), (2, 1)))
        _, i, j = self.check(one, other)
        self.assertEqual({i, j} - {3, 4}, set())

    def test_made_of_one_another(self):
        for seed in range(24):
            net = dense(1 + seed % 7, 5 + seed % 4, 20, 700 + seed)
            first = widened(net, seed, 10 - seed % 4)
            second = renamed(scrambled(net, seed, 6), seed)
            self.assertEqual(self.check(first, second)[0], "alike")
            self.assertEqual(self.check(second, rebuild(table_by_hand(net)))[0], "alike")

    def test_one_edge_split_in_two(self):
        net = dense(4, 4, 11, 6)
        for edge in range(11):
            in_a_row = split_in_series(net, 2 * edge, Fraction(1, 3))
            for other in (in_a_row, split_side_by_side(net, edge, Fraction(2, 7))):
                self.assertEqual(self.check(net, other)[0], "alike")
                self.assertEqual(self.check(other, net)[0], "alike")

    def test_loops_and_twigs(self):
        net = dense(3, 3, 9, 2)
        for node in range(1, len(net[1]) + 1):
            for place in range(len(net[1][node - 1]) + 1):
                for other in (with_loop(net, node, place, (5, 1)), with_twig(net, node, place, (1, 5))):
                    self.assertEqual(self.check(net, other)[0], "alike")

    def test_one_amount_changed(self):
        unlike = 0
        for net in (STAR, dense(5, 5, 14, 4), dense(7, 6, 20, 3), grown(4, 12, 8)):
            for edge in range(len(net[2])):
                unlike += self.check(net, changed_amount(net, edge))[0] == "unlike"
        self.assertGreater(unlike, 35)

    def test_other_nets(self):
        for seed in range(40):
            self.check(grown(2 + seed % 6, seed % 31, seed), dense(2 + seed % 6, 4, 12, seed))

    def test_thirty_edges(self):
        self.check(icosahedron(3), dense(3, 12, 30, 1))
        self.assertEqual(self.check(icosahedron(3), renamed(icosahedron(3), 4))[0], "alike")


class Judge(unittest.TestCase):
    def test_each_entry(self):
        for first, second in ((STAR, DRAWINGS["triangle"]), (dense(5, 5, 14, 4), dense(5, 5, 14, 5)), (STAR, TRIANGLE)):
            tables = table_by_hand(first), table_by_hand(second)
            for i in range(1, first[0] + 1):
                for j in range(1, first[0] + 1):
                    differ = tables[0][i - 1][j - 1] != tables[1][i - 1][j - 1]
                    self.assertIs(judge(first, second, ("unlike", i, j)), differ)

    def test_entries_that_differ_and_others(self):
        one = (4, ((0,), (1,), (2,), (3,)), ones(2))
        other = (4, ((0,), (1,), (2,), (3,)), ((1, 1), (2, 1)))
        right = [(i, j) for i in range(1, 5) for j in range(1, 5) if judge(one, other, ("unlike", i, j))]
        self.assertEqual(right, [(3, 3), (3, 4), (4, 3), (4, 4)])

    def test_entries_that_are_not_there(self):
        for i, j in ((0, 1), (1, 0), (0, 0), (4, 1), (1, 4), (-1, -1), (3, -3), (100, 100)):
            self.assertIs(judge(STAR, DRAWINGS["triangle"], ("unlike", i, j)), False)

    def test_papers_that_are_not_those_of_alike(self):
        # Any paper is right that leads both nets to one goal.
        triangle = (("star", 4),)
        goal = apply_moves(STAR, triangle)
        self.assertIs(judge(STAR, goal, ("alike", (triangle, goal), ((), goal))), True)
        self.assertIs(judge(goal, STAR, ("alike", ((), goal), (triangle, goal))), True)
        self.assertIs(judge(STAR, STAR, ("alike", ((), STAR), ((), STAR))), True)
        net = dense(4, 7, 20, 3)
        self.assertIs(judge(net, net, ("alike", ((), net), ((), net))), True)
        number = (("number",),)
        same = apply_moves(net, number)
        self.assertIs(judge(net, same, ("alike", (number, same), (number, same))), True)

    def test_papers_of_no_goal_in_common(self):
        triangle = (("star", 4),)
        goal = apply_moves(STAR, triangle)
        self.assertIs(judge(STAR, goal, ("alike", ((), STAR), ((), goal))), False)
        self.assertIs(judge(STAR, goal, ("alike", ((), STAR), ((), STAR))), False)
        self.assertIs(judge(STAR, goal, ("alike", ((), goal), ((), goal))), False)
        self.assertIs(judge(STAR, DRAWINGS["triangle"], ("alike", ((), STAR), ((), DRAWINGS["triangle"]))), False)

    def test_no_answer_alike_for_unlike_tables(self):
        for seed in range(8):
            first = dense(3 + seed % 4, 5, 15, seed)
            second = changed_amount(first, seed)
            if table_by_hand(first) == table_by_hand(second):
                continue
            _, paper, _ = alike(first, first)
            _, other, _ = alike(second, second)
            for one, two in ((paper, other), (paper, paper), (other, other), (other, paper)):
                self.assertIs(judge(first, second, ("alike", one, two)), False)

    def test_spoiled_papers(self):
        many = 0
        for seed in range(10):
            net = dense(3 + seed % 5, 7, 20, seed)
            first, second = widened(net, seed, 5), scrambled(net, seed, 5)
            answer = alike(first, second)
            self.assertIs(judge(first, second, answer), True)
            for side, start in ((1, first), (2, second)):
                moves, goal = answer[side]
                for spoiled in self.spoiled(moves):
                    wrong = list(answer)
                    wrong[side] = (spoiled, goal)
                    # By chance other moves may lead to the goal as well.
                    right = paper_holds(start, (spoiled, goal))
                    self.assertIs(judge(first, second, tuple(wrong)), right)
                    many += not right
        self.assertGreater(many, 100)

    @staticmethod
    def spoiled(moves):
        yield ()
        yield moves + (("loop", 0),)
        for at in range(len(moves)):
            yield moves[:at] + moves[at + 1:]
            yield moves[:at + 1] + moves[at:]
            yield moves[:at] + (("star", 1),) + moves[at + 1:]
            if at:
                yield moves[:at - 1] + (moves[at], moves[at - 1]) + moves[at + 1:]

    def test_moves_that_do_not_fit(self):
        for move in all_moves(STAR):
            if hand_move(STAR, move) is None:
                self.assertIs(judge(STAR, STAR, ("alike", ((move,), STAR), ((), STAR))), False)
                self.assertIs(judge(STAR, STAR, ("alike", ((), STAR), ((move,), STAR))), False)

    def test_goals_with_an_inner_turn_begun_elsewhere(self):
        begun = 0
        for seed in range(12):
            net = dense(3 + seed % 5, 6, 17, seed)
            answer = alike(net, renamed(net, seed))
            _, (moves, goal), (other_moves, _) = answer
            for node in range(goal[0], len(goal[1])):
                turn = goal[1][node]
                turns = goal[1][:node] + (turn[1:] + turn[:1],) + goal[1][node + 1:]
                wrong = (goal[0], turns, goal[2])
                for one, other in ((goal, wrong), (wrong, goal), (wrong, wrong)):
                    spoiled = ("alike", (moves, one), (other_moves, other))
                    self.assertIs(judge(net, renamed(net, seed), spoiled), False)
                    begun += 1
        self.assertGreater(begun, 20)

    def test_again(self):
        answer = alike(STAR, TRIANGLE)
        self.assertEqual([judge(STAR, TRIANGLE, answer) for _ in range(2)], [True, True])


if __name__ == "__main__":
    unittest.main()
