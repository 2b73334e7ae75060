import random
import unittest
from fractions import Fraction
from math import gcd

from nets import DRAWINGS, dense, determinant_by_orders, table_by_hand
from rimohms.peeling import (
    edge_off,
    live_nodes,
    neighbours,
    shortened,
    spike_off,
    whole_determinant,
    whole_minor,
    whole_table,
)
from tables import hand_minor, pairs_by_words, spread_out, without_edge, without_spike
from tables import neighbours as hand_neighbours


def told(whole):
    """The table of Fractions that a whole table stands for."""
    rows, bottom = whole
    return [[Fraction(-value, bottom) for value in row] for row in rows]


def fractions(table):
    return [[Fraction(*value) for value in row] for row in table]


class Peeling(unittest.TestCase):
    def test_whole_tables(self):
        for seed in range(14):
            table = table_by_hand(dense(1 + seed % 7, 5, 18, seed))
            rows, bottom = whole_table(table)
            self.assertGreater(bottom, 0)
            self.assertEqual({type(value) for row in rows for value in row}, {int})
            self.assertEqual(told((rows, bottom)), fractions(table))
            for heads, tails in pairs_by_words(len(table)):
                self.assertEqual(
                    Fraction(whole_minor(rows, heads, tails), bottom ** len(heads)), hand_minor(table, heads, tails)
                )

    def test_determinants(self):
        self.assertEqual(whole_determinant([]), 1)
        chance = random.Random(2)
        for size in range(1, 5):
            for _ in range(20):
                rows = [[chance.randint(-3, 9) for _ in range(size)] for _ in range(size)]
                self.assertEqual(whole_determinant(rows), determinant_by_orders(rows))

    def test_neighbours(self):
        star = table_by_hand(DRAWINGS["star"])
        for rim, nodes in ((3, (1, 2, 3)), (7, (2, 3, 7)), (6, (1, 4, 6))):
            table = spread_out(star, rim, nodes)
            self.assertEqual(live_nodes(whole_table(table)), list(nodes))
            self.assertEqual(sorted(neighbours(list(nodes))), sorted(hand_neighbours(table)))
        self.assertEqual(live_nodes(whole_table((((0, 1),),))), [])

    def test_rests(self):
        for seed in range(14):
            table = table_by_hand(dense(2 + seed % 6, 5, 18, seed))
            whole = whole_table(table)
            for i, j in hand_neighbours(table):
                amount, rest = edge_off(whole, i, j)
                self.assertEqual(told(rest), fractions(without_edge(table, i, j, Fraction(*amount))))
            for i in live_nodes(whole):
                resistance, rest = spike_off(whole, i)
                less = table if resistance is None else without_spike(table, i, Fraction(*resistance))
                self.assertEqual(told(rest), fractions(less))
            self.assertEqual(whole, whole_table(table))

    def test_no_common_factor_is_left(self):
        self.assertEqual(shortened([[-12, 12], [12, -12]], 18), ([[-2, 2], [2, -2]], 3))
        self.assertEqual(shortened([[0]], 5), ([[0]], 1))
        rows, bottom = shortened([[6, 10], [15, 30]], 60)
        self.assertEqual(gcd(bottom, *rows[0], *rows[1]), 1)


if __name__ == "__main__":
    unittest.main()
