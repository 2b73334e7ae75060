import random
import time
import unittest
from fractions import Fraction
from itertools import combinations, product

from nets import (
    DRAWINGS,
    SERIES,
    STAR,
    all_joined,
    chain_net,
    dense,
    grown,
    icosahedron,
    interleaved,
    ladder,
    octahedron,
    ones,
    table_by_hand,
)
from rimohms.drawing import check_net
from rimohms.errors import RimError, TableError
from rimohms.measure import resistance
from rimohms.minors import refusal
from rimohms.reduction import fewest
from rimohms.rebuild import greatest_edge, greatest_spike, rebuild
from rimohms.strands import has_fewest, strand_ends
from tables import (
    faults,
    hand_minor,
    neighbours,
    pairs_by_words,
    spread_out,
    table_from,
    three_heads,
    well_joined,
    with_entry,
    without_edge,
    without_spike,
)

LITTLE = Fraction(1, 10 ** 30)
MORE = (Fraction(1, 1000), LITTLE)


def pair(value):
    return (value.numerator, value.denominator)


def drawings():
    yield from DRAWINGS.values()
    yield from (chain_net(9), all_joined(5), octahedron(2), octahedron(3), icosahedron(3))
    for seed in range(70):
        yield grown(1 + seed % 7, seed % 31, seed)
    for seed in range(70):
        yield dense(1 + seed % 7, 3 + seed % 9, 6 + seed % 25, seed)


def products_table(factors):
    """The table with the amounts x[i] * x[j]: that of a star, whose minors of two heads are 0."""
    rim = len(factors)
    return table_from(
        {(i, j): factors[i - 1] * factors[j - 1] for i, j in combinations(range(1, rim + 1), 2)}, rim
    )


def sample_tables():
    """Tables that are not refused."""
    for seed, net in enumerate(drawings()):
        if seed % 3 == 0:
            yield table_by_hand(net)
    for rim in range(2, 8):
        yield table_from(well_joined(rim), rim)
        yield products_table(range(1, rim + 1))
    yield spread_out(table_from(well_joined(4), 4), 7, (2, 3, 5, 7))
    yield spread_out(table_by_hand(STAR), 5, (1, 2, 4))
    yield table_from({(1, 4): 2, (2, 3): 5}, 6)


class GreatestEdge(unittest.TestCase):
    def check(self, table, i, j):
        found = greatest_edge(table, i, j)
        amount = Fraction(*found)
        self.assertEqual(pair(amount), found)
        self.assertGreaterEqual(amount, 0)
        self.assertIsNone(refusal(without_edge(table, i, j, amount)))
        for more in MORE:
            self.assertIsNotNone(refusal(without_edge(table, i, j, amount + more)), (table, i, j))
        self.assertEqual(greatest_edge(table, i, j), found)
        return found

    def test_by_hand(self):
        table = table_by_hand(DRAWINGS["triangle"])
        self.assertEqual([self.check(table, i, j) for i, j in ((1, 2), (2, 3), (3, 1))], [(1, 1), (2, 1), (3, 1)])
        # The table of a star has no edge, but that of its edges with one beside them has.
        for rim in (4, 5, 6, 7):
            table = products_table([1] * rim)
            for i in range(1, rim + 1):
                self.assertEqual(self.check(table, i, i % rim + 1), (0, 1))
        star = products_table([1] * 4)
        self.assertEqual(self.check(without_edge(star, 2, 3, Fraction(-7, 5)), 2, 3), (7, 5))
        self.assertEqual(self.check(without_edge(star, 4, 1, Fraction(-7, 5)), 4, 1), (7, 5))
        # Of three rim nodes, each pair can lose all that joins it.
        self.assertEqual(self.check(table_by_hand(STAR), 2, 3), (1, 3))

    def test_two_nodes(self):
        table = table_by_hand(SERIES)
        self.assertEqual((self.check(table, 1, 2), self.check(table, 2, 1)), ((1, 3), (1, 3)))
        table = spread_out(table, 6, (2, 5))
        self.assertEqual((self.check(table, 2, 5), self.check(table, 5, 2)), ((1, 3), (1, 3)))

    def test_rows_of_zero_between(self):
        table = spread_out(table_by_hand(DRAWINGS["triangle"]), 7, (2, 4, 7))
        self.assertEqual([self.check(table, i, j) for i, j in ((2, 4), (4, 7), (7, 2))], [(1, 1), (2, 1), (3, 1)])
        base = table_from(well_joined(5), 5)
        spread = spread_out(base, 7, (1, 3, 4, 6, 7))
        for (i, j), (far_i, far_j) in zip(((1, 2), (2, 3), (3, 4), (5, 1)), ((1, 3), (3, 4), (4, 6), (7, 1))):
            self.assertEqual(self.check(spread, far_i, far_j), self.check(base, i, j))

    def test_all_neighbours(self):
        none = some = 0
        for table in sample_tables():
            for i, j in neighbours(table):
                if self.check(table, i, j) == (0, 1):
                    none += 1
                else:
                    some += 1
        self.assertGreater(none, 20)
        self.assertGreater(some, 60)

    def test_an_edge_that_was_put_in(self):
        for seed in range(20):
            table = table_by_hand(dense(3 + seed % 5, 7, 20, seed))
            for i, j in neighbours(table):
                before = Fraction(*greatest_edge(table, i, j))
                for amount in (Fraction(3, 7), Fraction(1, 10 ** 30)):
                    self.assertEqual(greatest_edge(without_edge(table, i, j, -amount), i, j), pair(before + amount))


class GreatestSpike(unittest.TestCase):
    def check(self, table, i):
        found = greatest_spike(table, i)
        whole = 1 / Fraction(*table[i - 1][i - 1])
        if found is None:
            for part in (Fraction(1, 2), 1 - Fraction(1, 1000), 1 - LITTLE):
                self.assertIsNone(refusal(without_spike(table, i, whole * part)), (table, i))
        else:
            value = Fraction(*found)
            self.assertEqual(pair(value), found)
            self.assertGreaterEqual(value, 0)
            self.assertLess(value, whole)
            self.assertIsNone(refusal(without_spike(table, i, value)))
            for more in MORE:
                if value + more < whole:
                    self.assertIsNotNone(refusal(without_spike(table, i, value + more)), (table, i))
        self.assertEqual(greatest_spike(table, i), found)
        return found

    def test_by_hand(self):
        for i in (1, 2, 3):
            self.assertEqual(self.check(table_by_hand(STAR), i), (1, 1))
        net = (3, STAR[1], ((2, 1), (3, 5), (7, 1)))
        self.assertEqual([self.check(table_by_hand(net), i) for i in (1, 2, 3)], [(1, 2), (5, 3), (1, 7)])
        # Edges around all of four rim nodes: nothing can be taken off.
        square = table_from({(1, 2): 1, (2, 3): 1, (3, 4): 1, (1, 4): 1}, 4)
        self.assertEqual([self.check(square, i) for i in (1, 2, 3, 4)], [(0, 1)] * 4)

    def test_no_greatest_one(self):
        for table in (table_by_hand(SERIES), spread_out(table_by_hand(SERIES), 5, (2, 4))):
            for i, row in enumerate(table, start=1):
                if row[i - 1] != (0, 1):
                    self.assertIsNone(self.check(table, i))
        # A rim node that one edge joins with another rim node.
        table = table_from({(1, 2): 3, (2, 3): 4, (2, 4): 5, (3, 4): 6}, 4)
        self.assertIsNone(self.check(table, 1))
        self.assertEqual(self.check(table, 2), (0, 1))
        table = table_from({(1, 2): 3, (2, 3): 4}, 3)
        self.assertEqual([self.check(table, i) for i in (1, 2, 3)], [None, (0, 1), None])

    def test_all_nodes(self):
        kinds = {"none greatest": 0, "nothing": 0, "some": 0}
        for table in sample_tables():
            for i, row in enumerate(table, start=1):
                if row[i - 1] != (0, 1):
                    found = self.check(table, i)
                    kinds["none greatest" if found is None else "some" if found[0] else "nothing"] += 1
        self.assertGreater(min(kinds.values()), 15, kinds)

    def test_a_spike_that_was_put_on(self):
        for seed in range(20):
            table = table_by_hand(dense(3 + seed % 5, 7, 20, seed))
            for i, row in enumerate(table, start=1):
                before = greatest_spike(table, i)
                if before is not None:
                    for more in (Fraction(3, 7), Fraction(1, 10 ** 30)):
                        # A spike taken off and one put on differ in the sign alone.
                        longer = without_spike(table, i, -more)
                        self.assertEqual(greatest_spike(longer, i), pair(Fraction(*before) + more))


class Rebuild(unittest.TestCase):
    def check(self, table, most=None):
        net = rebuild(table)
        self.assertIsNone(check_net(net))
        self.assertEqual({type(net), type(net[1]), type(net[2]), *map(type, net[1]), *map(type, net[2])}, {tuple})
        self.assertEqual({type(value) for part in (*net[1], *net[2]) for value in part} - {int}, set())
        self.assertEqual(table_by_hand(net), table)
        self.assertIs(has_fewest(net), True)
        self.assertEqual(len(net[2]), interleaved(strand_ends(net)))
        if most is not None:
            self.assertLessEqual(len(net[2]), most)
        self.assertEqual(rebuild(table), net)
        return net

    def refused(self, table):
        with self.assertRaises(TableError) as caught:
            rebuild(table)
        self.assertIsInstance(caught.exception, RimError)
        self.assertIsInstance(caught.exception, ValueError)

    def test_by_hand(self):
        self.assertEqual(self.check((((0, 1),),)), (1, ((),), ()))
        for rim in range(1, 8):
            self.assertEqual(self.check((((0, 1),) * rim,) * rim), (rim, ((),) * rim, ()))
        net = self.check(table_by_hand(SERIES))
        self.assertEqual((net[0], net[2]), (2, ((1, 3),)))
        self.assertEqual(len(self.check(table_by_hand(STAR))[2]), 3)
        self.assertEqual(len(self.check(table_by_hand((4, ((0,), (2,), (4,), (6,), (1, 3, 5, 7)), ones(4))))[2]), 4)

    def test_drawings(self):
        for net in drawings():
            found = self.check(table_by_hand(net), len(net[2]))
            self.assertEqual(strand_ends(found), strand_ends(fewest(net)[1]))

    def test_no_minor_is_zero(self):
        for rim in range(1, 8):
            table = table_from(well_joined(rim), rim)
            self.assertTrue(all(hand_minor(table, *spots) > 0 for spots in pairs_by_words(rim)))
            self.assertEqual(len(self.check(table)[2]), rim * (rim - 1) // 2)
        for rim in range(2, 6):
            table = table_by_hand(all_joined(rim))
            self.assertEqual(len(self.check(table)[2]), rim * (rim - 1) // 2)

    def test_rows_of_zero(self):
        for small, nodes in ((2, (1, 2)), (3, (2, 3, 5)), (3, (1, 4, 7)), (4, (1, 2, 4, 6)), (5, (2, 3, 4, 6, 7))):
            table = spread_out(table_from(well_joined(small), small), 7, nodes)
            net = self.check(table)
            self.assertEqual(len(net[2]), small * (small - 1) // 2)
            self.assertEqual([node for node in range(1, 8) if net[1][node - 1]], list(nodes))

    def test_several_parts(self):
        net = self.check(table_from({(1, 2): 1, (3, 7): 2, (4, 6): 3}, 7))
        self.assertEqual(sorted(net[2]), [(1, 1), (2, 1), (3, 1)])
        table = table_from({(1, 5): 1, (1, 6): 1, (5, 6): 1, (2, 3): 1, (2, 4): 2, (3, 4): 3}, 7)
        self.assertEqual(len(self.check(table)[2]), 6)

    def test_products(self):
        rows = ((1, 2), (1, 1, 1), (2, 3, 5, 7), (1, 2, 3, 4, 5), (1,) * 6, (3, 1, 4, 1, 5, 9, 2), (1, 0, 2, 5))
        for factors in rows:
            net = self.check(products_table(factors))
            live = len([factor for factor in factors if factor])
            self.assertEqual(len(net[2]), live if live > 2 else 1)

    def test_sums_of_products(self):
        chance = random.Random(6)
        fit = 0
        for _ in range(120):
            rim = chance.randint(3, 7)
            one, other = [[chance.randint(0, 3) for _ in range(rim)] for _ in range(2)]
            joints = {
                (i, j): one[i - 1] * one[j - 1] + other[i - 1] * other[j - 1]
                for i, j in combinations(range(1, rim + 1), 2)
            }
            table = table_from(joints, rim)
            if faults(table):
                self.refused(table)
            else:
                self.check(table)
                fit += 1
        self.assertTrue(20 < fit < 100, fit)

    def test_small_drawn_entries(self):
        for values in product(range(3), repeat=6):
            joints = dict(zip(combinations(range(1, 5), 2), values))
            table = table_from(joints, 4)
            if faults(table):
                self.refused(table)
            else:
                self.check(table)
        chance = random.Random(11)
        fit = 0
        for _ in range(600):
            rim = chance.randint(5, 7)
            share = chance.random() ** 2
            joints = {
                joint: chance.randint(1, 3) for joint in combinations(range(1, rim + 1), 2) if chance.random() < share
            }
            table = table_from(joints, rim)
            if refusal(table) is None:
                self.check(table)
                fit += 1
            else:
                self.refused(table)
        self.assertGreater(fit, 150)

    def test_one_entry_changed(self):
        for net in (STAR, SERIES, dense(4, 5, 16, 1), dense(7, 8, 30, 2)):
            table = table_by_hand(net)
            for i, j in product(range(1, net[0] + 1), repeat=2):
                for change in (Fraction(1, 1000), Fraction(-3)):
                    self.refused(with_entry(table, i, j, Fraction(*table[i - 1][j - 1]) + change))

    def test_two_entries_of_a_row_changed(self):
        for net in (STAR, dense(4, 5, 16, 1), dense(7, 8, 30, 2)):
            table = table_by_hand(net)
            for row in range(1, net[0] + 1):
                for i, j in combinations(range(1, net[0] + 1), 2):
                    changed = with_entry(table, row, i, Fraction(*table[row - 1][i - 1]) + 1)
                    self.refused(with_entry(changed, row, j, Fraction(*table[row - 1][j - 1]) - 1))

    def test_each_thing_that_can_be_wrong(self):
        self.refused((((3, 1), (-1, 1), (-2, 1)), ((-2, 1), (3, 1), (-1, 1)), ((-1, 1), (-2, 1), (3, 1))))
        self.refused((((1, 2),),))
        self.refused(with_entry(table_by_hand(STAR), 2, 2, Fraction(9, 10)))
        self.refused(table_from({(1, 2): -1}, 2))
        self.refused(table_from({(1, 3): 1, (2, 4): 1}, 4))
        self.refused(three_heads(6, 2))
        self.refused(three_heads(7, 3))
        joints = well_joined(7)
        joints[(3, 6)] += 2
        self.refused(table_from(joints, 7))

    def test_just_before_and_behind_what_is_refused(self):
        base = table_from(well_joined(6), 6)
        greatest = Fraction(*greatest_edge(base, 2, 3))
        for less in (Fraction(1, 10 ** 30), Fraction(0)):
            self.check(without_edge(base, 2, 3, greatest - less))
        self.assertEqual(len(self.check(without_edge(base, 2, 3, greatest))[2]), 14)
        self.refused(without_edge(base, 2, 3, greatest + Fraction(1, 10 ** 30)))

    def test_long_numbers(self):
        bottom = 10 ** 30
        chance = random.Random(3)
        for seed in range(7):
            rim, turns, amounts = dense(7 - seed % 3, 9, 26, 40 + seed)
            long = tuple(pair(Fraction(chance.randint(1, bottom), bottom)) for _ in amounts)
            self.check(table_by_hand((rim, turns, long)), len(amounts))
        joints = {joint: value * (1 + Fraction(1, bottom + joint[0])) for joint, value in well_joined(5).items()}
        self.assertEqual(len(self.check(table_from(joints, 5))[2]), 10)
        huge = 10 ** 299 + 1
        table = table_from({(1, 2): Fraction(huge, 3), (2, 3): Fraction(7, huge), (1, 3): Fraction(huge, huge + 2)}, 3)
        self.assertEqual(len(self.check(table)[2]), 3)

    def test_within_seconds(self):
        started = time.monotonic()
        for seed in range(6):
            joints = {
                joint: value * (1 + Fraction(1, 10 ** 30 + seed + sum(joint)))
                for joint, value in well_joined(7).items()
            }
            self.assertEqual(len(rebuild(table_from(joints, 7))[2]), 21)
        self.assertLess(time.monotonic() - started, 20)

    def test_table_stays(self):
        table = [list(row) for row in table_from(well_joined(4), 4)]
        kept = [list(row) for row in table]
        first = (rebuild(table), greatest_edge(table, 1, 2), greatest_spike(table, 1))
        self.assertEqual((rebuild(table), greatest_edge(table, 1, 2), greatest_spike(table, 1)), first)
        self.assertEqual(table, kept)


class Ladders(unittest.TestCase):
    def test_going_along(self):
        for count in range(1, 15):
            sides = [Fraction(k % 5 + 1, k % 3 + 1) for k in range(count)]
            rungs = [Fraction(k % 4 + 1, k % 7 + 2) for k in range(count)]
            net = ladder(sides, rungs)
            self.assertIsNone(check_net(net))
            # From the far end: a rung beside all that is behind it, then the resistor before it.
            whole = None
            for side, rung in zip(reversed(sides), reversed(rungs)):
                whole = side + (rung if whole is None else rung * whole / (rung + whole))
            self.assertEqual(resistance(net, 1, 2), pair(whole))
            near, far = pair(1 / whole), pair(-1 / whole)
            table = ((near, far), (far, near))
            self.assertEqual(table_by_hand(net), table)
            self.assertEqual(rebuild(table)[2], (near,))
            self.assertEqual(fewest(net)[1][2], (near,))

    def test_table_of_the_program(self):
        net = ladder([Fraction(1)] * 6, [Fraction(1)] * 6)
        # The numbers of Fibonacci.
        self.assertEqual(resistance(net, 1, 2), (233, 144))
        self.assertEqual(rebuild(table_by_hand(net))[2], ((144, 233),))


if __name__ == "__main__":
    unittest.main()
