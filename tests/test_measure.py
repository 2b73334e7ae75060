import copy
import random
import unittest
from fractions import Fraction

from nets import DRAWINGS, SERIES, STAR, chain_net, eliminated, fractions_of, grown, home_of, laplacian, ones, table_by_hand
from rimohms.measure import currents, power, resistance, table_of, voltages

# Rim nodes 1 and 4 are joined with nothing; nodes 2 and 3 by an edge with a twig and a loop at an inner node.
APART = (4, ((), (0,), (3,), (), (1, 4, 2), (5, 6, 7)), ((1, 1), (1, 1), (1, 1), (1, 1)))
# Two pieces: rim nodes 1 and 2, rim nodes 3 and 4 with an inner node each.
PIECES = (4, ((0,), (3,), (4,), (7,), (1, 2), (5, 6)), ((1, 1), (1, 2), (3, 1), (1, 1)))


def samples():
    yield from DRAWINGS.values()
    yield from (APART, PIECES, chain_net(12))
    for seed in range(42):
        yield grown(1 + seed % 7, seed % 41, seed)


def given_for(net, seed):
    chance = random.Random(seed)
    values = [Fraction(chance.randint(-9, 9), chance.randint(1, 5)) for _ in range(net[0])]
    return [(value.numerator, value.denominator) for value in values]


def pair(value):
    return (value.numerator, value.denominator)


class Table(unittest.TestCase):
    def test_example(self):
        net = (2, ((0,), (3,), (1, 2)), ((1, 1), (1, 2)))
        self.assertEqual(table_of(net), (((1, 3), (-1, 3)), ((-1, 3), (1, 3))))

    def test_by_hand(self):
        near, far = (2, 3), (-1, 3)
        self.assertEqual(table_of(STAR), ((near, far, far), (far, near, far), (far, far, near)))
        self.assertEqual(table_of((1, ((),), ())), (((0, 1),),))
        self.assertEqual(table_of((2, ((), ()), ())), (((0, 1), (0, 1)), ((0, 1), (0, 1))))
        self.assertEqual(table_of((1, ((0, 1),), ((7, 2),))), (((0, 1),),))
        self.assertEqual(
            table_of(DRAWINGS["triangle"]),
            (((4, 1), (-1, 1), (-3, 1)), ((-1, 1), (3, 1), (-2, 1)), ((-3, 1), (-2, 1), (5, 1))),
        )
        self.assertEqual(table_of(DRAWINGS["triple"]), (((37, 6), (-37, 6)), ((-37, 6), (37, 6))))
        self.assertEqual(table_of(chain_net(50)), (((1, 50), (-1, 50)), ((-1, 50), (1, 50))))

    def test_apart(self):
        none, half = (0, 1), (1, 2)
        self.assertEqual(
            table_of(APART),
            ((none,) * 4, (none, half, (-1, 2), none), (none, (-1, 2), half, none), (none,) * 4),
        )

    def test_against_elimination(self):
        for net in samples():
            self.assertEqual(table_of(net), table_by_hand(net))

    def test_symmetric_with_row_sums_zero(self):
        for net in samples():
            table = table_of(net)
            self.assertEqual(len(table), net[0])
            self.assertEqual(table, tuple(zip(*table)))
            for row in table:
                self.assertEqual(sum(fractions_of(row)), 0)

    def test_entries_are_currents(self):
        for net in list(samples())[:30]:
            table = table_of(net)
            home = home_of(net)
            for j in range(net[0]):
                flows = fractions_of(currents(net, [(int(i == j), 1) for i in range(net[0])]))
                into = [Fraction(0)] * net[0]
                for edge, flow in enumerate(flows):
                    for dart, sign in ((2 * edge, 1), (2 * edge + 1, -1)):
                        if home[dart] <= net[0]:
                            into[home[dart] - 1] += sign * flow
                self.assertEqual([row[j] for row in table], [pair(value) for value in into])

    def test_kind_and_again(self):
        table = table_of(STAR)
        self.assertEqual({type(table), type(table[0]), type(table[0][0])}, {tuple})
        self.assertEqual(table_of(STAR), table)

    def test_long_amounts(self):
        top = 10 ** 299 + 7
        net = (2, ((0,), (3,), (1, 2)), ((top, 10 ** 299), (1, top)))
        self.assertEqual(table_of(net), table_by_hand(net))


class Voltages(unittest.TestCase):
    def test_by_hand(self):
        self.assertEqual(voltages(STAR, [(1, 1), (0, 1), (-1, 2)]), [(1, 1), (0, 1), (-1, 2), (1, 6)])
        self.assertEqual(voltages(SERIES, [(1, 1), (0, 1)]), [(1, 1), (0, 1), (2, 3)])
        self.assertEqual(voltages((1, ((),), ()), [(-5, 3)]), [(-5, 3)])

    def test_rim_nodes_joined_with_nothing(self):
        given = [(9, 1), (1, 1), (0, 1), (-7, 2)]
        self.assertEqual(voltages(APART, given), given + [(1, 2), (1, 2)])
        self.assertEqual(currents(APART, given), [(1, 2), (1, 2), (0, 1), (0, 1)])
        self.assertEqual(power(APART, given), (1, 2))

    def test_no_current_is_left_at_inner_nodes(self):
        for seed, net in enumerate(samples()):
            given = given_for(net, seed)
            found = voltages(net, given)
            self.assertIs(type(found), list)
            self.assertEqual(len(found), len(net[1]))
            self.assertEqual(found[:net[0]], given)
            values = fractions_of(found)
            self.assertEqual([pair(value) for value in values], found)
            for row in laplacian(net)[net[0]:]:
                self.assertEqual(sum(a * v for a, v in zip(row, values)), 0)

    def test_arguments_stay(self):
        for net in (STAR, SERIES, APART, PIECES):
            given = given_for(net, 3)
            kept = copy.deepcopy(given)
            for function in (voltages, currents, power):
                first = function(net, given)
                self.assertEqual(given, kept)
                self.assertEqual(function(net, given), first)


class Currents(unittest.TestCase):
    def test_by_hand(self):
        self.assertEqual(currents(SERIES, [(1, 1), (0, 1)]), [(1, 3), (1, 3)])
        # The edges of the star begin at the rim.
        self.assertEqual(currents(STAR, [(1, 1), (0, 1), (0, 1)]), [(2, 3), (-1, 3), (-1, 3)])
        self.assertEqual(currents((2, ((1,), (0,)), ((3, 2),)), [(1, 1), (0, 1)]), [(-3, 2)])
        self.assertEqual(currents((1, ((),), ()), [(1, 1)]), [])

    def test_by_voltages(self):
        for seed, net in enumerate(samples()):
            given = given_for(net, seed)
            values = fractions_of(voltages(net, given))
            home = home_of(net)
            flows = currents(net, given)
            self.assertIs(type(flows), list)
            hand = [
                pair(Fraction(*amount) * (values[home[2 * k] - 1] - values[home[2 * k + 1] - 1]))
                for k, amount in enumerate(net[2])
            ]
            self.assertEqual(flows, hand)


class Power(unittest.TestCase):
    def test_by_hand(self):
        self.assertEqual(power(SERIES, [(3, 1), (0, 1)]), (3, 1))
        self.assertEqual(power((1, ((),), ()), [(3, 1)]), (0, 1))
        self.assertEqual(power((2, ((0,), (1,)), ((3, 2),)), [(1, 1), (-1, 1)]), (6, 1))

    def test_both_sums(self):
        for seed, net in enumerate(samples()):
            given = given_for(net, seed)
            flows = fractions_of(currents(net, given))
            edges = sum((flow * flow / Fraction(*amount) for flow, amount in zip(flows, net[2])), Fraction(0))
            given_values = fractions_of(given)
            rim = sum(
                (v * w * Fraction(*x) for v, row in zip(given_values, table_of(net)) for w, x in zip(given_values, row)),
                Fraction(0),
            )
            found = power(net, given)
            self.assertEqual(found, pair(edges))
            self.assertEqual(found, pair(rim))


class Resistance(unittest.TestCase):
    def test_by_hand(self):
        self.assertEqual(resistance(SERIES, 1, 2), (3, 1))
        self.assertEqual(resistance(SERIES, 1, 3), (1, 1))
        self.assertEqual(resistance(SERIES, 3, 2), (2, 1))
        self.assertEqual(resistance(STAR, 2, 3), (2, 1))
        self.assertEqual(resistance(STAR, 4, 1), (1, 1))
        self.assertEqual(resistance(DRAWINGS["triangle"], 1, 2), (5, 11))
        self.assertEqual(resistance(chain_net(40), 1, 2), (40, 1))

    def test_same_node(self):
        for net in (STAR, APART, (1, ((),), ())):
            for node in range(1, len(net[1]) + 1):
                self.assertEqual(resistance(net, node, node), (0, 1))

    def test_not_joined(self):
        for one, other in ((1, 2), (1, 4), (1, 5), (4, 6), (3, 4)):
            self.assertIsNone(resistance(APART, one, other))
            self.assertIsNone(resistance(APART, other, one))
        for one in (1, 2, 5):
            for other in (3, 4, 6):
                self.assertIsNone(resistance(PIECES, one, other))
                self.assertIsNone(resistance(PIECES, other, one))
        self.assertIsNone(resistance((2, ((), ()), ()), 1, 2))

    def test_other_pieces_do_not_matter(self):
        self.assertEqual(resistance(PIECES, 1, 2), (3, 1))
        self.assertEqual(resistance(PIECES, 4, 3), (4, 3))
        self.assertEqual(resistance(PIECES, 6, 4), (1, 1))
        self.assertEqual(resistance(APART, 5, 6), (1, 1))
        self.assertEqual(resistance(APART, 6, 3), (2, 1))

    def test_against_elimination(self):
        chance = random.Random(1)
        for net in samples():
            size = len(net[1])
            for _ in range(4):
                one, other = chance.randint(1, size), chance.randint(1, size)
                found = resistance(net, one, other)
                self.assertEqual(found, self.by_hand(net, one, other))
                self.assertEqual(found, resistance(net, other, one))

    @staticmethod
    def by_hand(net, one, other):
        """From the rows of the piece of the first node, the second one being held at 0."""
        if one == other:
            return (0, 1)
        home = home_of(net)
        piece, more = {one}, True
        while more:
            more = {home[dart ^ 1] for dart in home if home[dart] in piece} - piece
            piece |= more
        if other not in piece:
            return None
        places = [node - 1 for node in piece if node not in (one, other)]
        return pair(1 / eliminated(laplacian(net), places)[one - 1][one - 1])


class Sizes(unittest.TestCase):
    def test_seven_rim_nodes_and_forty_edges(self):
        for seed in range(5):
            net = grown(7, 40, 100 + seed)
            self.assertEqual(len(net[2]), 40)
            self.assertEqual(table_of(net), table_by_hand(net))

    def test_sixty_edges(self):
        loops = (1, (tuple(range(120)),), ones(60))
        self.assertEqual(table_of(loops), (((0, 1),),))
        net = grown(7, 60, 5)
        self.assertEqual(table_of(net), table_by_hand(net))


if __name__ == "__main__":
    unittest.main()
