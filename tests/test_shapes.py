import random
import unittest
from fractions import Fraction

from handmoves import scrambled
from nets import (
    DRAWINGS,
    SERIES,
    STAR,
    chain_net,
    dense,
    grown,
    octahedron,
    ones,
    renamed,
    table_by_hand,
    widened,
)
from rimohms.errors import NetError, RimError
from rimohms.rebuild import rebuild
from rimohms.reduction import fewest
from rimohms.shapes import amounts_for
from rimohms.strands import has_fewest, strand_ends
from tables import spread_out, table_from, three_heads, well_joined, with_entry

STAR_TABLE = table_by_hand(STAR)


def with_amounts(net, amounts):
    return (net[0], net[1], tuple(amounts))


def drawn_amounts(net, seed):
    chance = random.Random(seed)
    values = [Fraction(chance.randint(1, 30), chance.randint(1, 20)) for _ in net[2]]
    return tuple((value.numerator, value.denominator) for value in values)


def drawings():
    """Nets with the fewest edges, on rims of 1 to 7."""
    yield from (STAR, DRAWINGS["triangle"], (1, ((),), ()), (7, ((),) * 7, ()), (2, ((1,), (0,)), ones(1)))
    for seed in range(84):
        net = fewest(dense(1 + seed % 7, 3 + seed % 8, 8 + seed % 20, seed))[1]
        yield renamed(scrambled(net, seed, seed % 5), seed)
    for rim in range(1, 8):
        net = rebuild(table_from(well_joined(rim), rim))
        for seed in range(4):
            yield renamed(scrambled(net, seed, 3 * rim), seed)
    parts = {(1, 5): 1, (1, 6): 1, (5, 6): 1, (2, 3): 1, (2, 4): 2, (3, 4): 3}
    for joints in ({(1, 2): 1, (3, 7): 2, (4, 6): 3}, parts):
        yield rebuild(table_from(joints, 7))


class AmountsFor(unittest.TestCase):
    def test_by_hand(self):
        self.assertEqual(amounts_for(STAR, STAR_TABLE), ones(3))
        self.assertEqual(amounts_for(DRAWINGS["triangle"], STAR_TABLE), ((1, 3),) * 3)
        self.assertEqual(amounts_for((2, ((1,), (0,)), ((5, 7),)), table_by_hand(SERIES)), ((1, 3),))
        self.assertEqual(amounts_for((1, ((),), ()), (((0, 1),),)), ())
        self.assertEqual(amounts_for((3, ((),) * 3, ()), (((0, 1),) * 3,) * 3), ())

    def test_new_amounts(self):
        rims, many = set(), 0
        for seed, net in enumerate(drawings()):
            self.assertIs(has_fewest(net), True)
            amounts = drawn_amounts(net, seed)
            table = table_by_hand(with_amounts(net, amounts))
            for known in (ones(len(amounts)), amounts, net[2]):
                found = amounts_for(with_amounts(net, known), table)
                self.assertIs(type(found), tuple)
                self.assertEqual(found, amounts)
            rims.add(net[0])
            many += len(amounts)
        self.assertEqual(rims, set(range(1, 8)))
        self.assertGreater(many, 300)

    def test_small_and_great_amounts(self):
        net = rebuild(table_from(well_joined(6), 6))
        amounts = [(1, 10 ** 30 + k) if k % 2 else (10 ** 30 + k, 10 ** 10 + 1) for k in range(15)]
        amounts = tuple((value.numerator, value.denominator) for value in (Fraction(*pair) for pair in amounts))
        self.assertEqual(amounts_for(net, table_by_hand(with_amounts(net, amounts))), amounts)

    def test_tables_that_do_not_fit(self):
        fit = unfit = 0
        nets = [fewest(dense(4 + seed % 2, 5, 6 + seed % 9, seed))[1] for seed in range(16)]
        nets += [(4, ((),) * 4, ()), (5, ((),) * 5, ())]
        for net in nets:
            for other in nets + [with_amounts(scrambled(net, 1, 4), drawn_amounts(net, 5))]:
                if net[0] != other[0]:
                    continue
                found = amounts_for(net, table_by_hand(other))
                if strand_ends(net) == strand_ends(other):
                    self.assertEqual(table_by_hand(with_amounts(net, found)), table_by_hand(other))
                    fit += 1
                else:
                    self.assertIsNone(found)
                    unfit += 1
        self.assertGreater(fit, 35)
        self.assertGreater(unfit, 60)

    def test_each_edge_is_needed(self):
        # The table of the same drawing without an edge.
        for net in list(drawings())[5:60]:
            table = table_by_hand(net)
            for edge in range(len(net[2])):
                turns = [
                    tuple(dart - 2 * (dart // 2 > edge) for dart in turn if dart // 2 != edge) for turn in net[1]
                ]
                less = (net[0], tuple(turns), net[2][:edge] + net[2][edge + 1:])
                if all(turns[net[0]:]):
                    self.assertIsNone(amounts_for(net, table_by_hand(less)))
            self.assertEqual(amounts_for(net, table), net[2])

    def test_by_hand_none(self):
        square = table_from({(1, 2): 1, (2, 3): 1, (3, 4): 1, (1, 4): 1}, 4)
        star = (4, ((0,), (2,), (4,), (6,), (1, 3, 5, 7)), ones(4))
        self.assertIsNone(amounts_for(star, square))
        self.assertIsNone(amounts_for(rebuild(square), table_by_hand(star)))
        path = (3, ((0,), (2, 1), (3,)), ones(2))
        for i, j in ((2, 3), (1, 3), (1, 2)):
            others = [joint for joint in ((1, 2), (1, 3), (2, 3)) if joint != (i, j)]
            table = table_from({joint: 1 for joint in others}, 3)
            self.assertEqual(amounts_for(path, table), ones(2) if (i, j) == (1, 3) else None)
        self.assertIsNone(amounts_for(path, STAR_TABLE))
        self.assertIsNone(amounts_for(STAR, table_from({(1, 2): 1, (2, 3): 1}, 3)))
        self.assertIsNone(amounts_for(STAR, (((0, 1),) * 3,) * 3))
        self.assertIsNone(amounts_for((3, ((),) * 3, ()), STAR_TABLE))
        self.assertIsNone(amounts_for((4, ((0,), (1,), (), ()), ones(1)), spread_out(table_by_hand(SERIES), 4, (1, 3))))

    def test_tables_that_are_refused(self):
        self.assertIsNone(amounts_for(STAR, with_entry(STAR_TABLE, 2, 2, Fraction(9, 10))))
        self.assertIsNone(amounts_for(STAR, with_entry(STAR_TABLE, 1, 2, Fraction(-1, 4))))
        self.assertIsNone(amounts_for(STAR, table_from({(1, 2): -1, (2, 3): 3, (1, 3): 3}, 3)))
        self.assertIsNone(amounts_for((1, ((),), ()), (((1, 2),),)))
        for rim in (6, 7):
            net = rebuild(table_from(well_joined(rim), rim))
            self.assertIsNone(amounts_for(net, three_heads(rim, 1)))
        mirror = (((3, 1), (-1, 1), (-2, 1)), ((-2, 1), (3, 1), (-1, 1)), ((-1, 1), (-2, 1), (3, 1)))
        self.assertIsNone(amounts_for(STAR, mirror))

    def test_nets_that_have_not_the_fewest_edges(self):
        nets = [SERIES, DRAWINGS["triple"], DRAWINGS["loop at the rim"], DRAWINGS["wheel"], chain_net(4), octahedron(3)]
        nets += [widened(grown(1 + seed % 7, 6, seed), seed, 1 + seed % 3) for seed in range(14)]
        for net in nets:
            for table in (table_by_hand(net), (((1, 1),) * net[0],) * net[0]):
                with self.assertRaises(NetError) as caught:
                    amounts_for(net, table)
                self.assertIsInstance(caught.exception, RimError)
                self.assertIsInstance(caught.exception, ValueError)

    def test_again(self):
        net = rebuild(table_from(well_joined(5), 5))
        table = [list(row) for row in table_from(well_joined(5), 5)]
        kept = [list(row) for row in table]
        self.assertEqual(amounts_for(net, table), amounts_for(net, table))
        self.assertEqual(table, kept)


if __name__ == "__main__":
    unittest.main()
