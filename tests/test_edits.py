import copy
import random
import unittest
from fractions import Fraction

from nets import DRAWINGS, SERIES, STAR, dense, grown, home_of, ones, pairs_of, table_by_hand
from rimohms.edits import changed_table, merged_table
from rimohms.errors import RimError, TableError
from rimohms.measure import table_of

# Two parts on a rim of four nodes, with a loop and a twig.
PARTS = (4, ((0,), (1, 4, 5), (2,), (6, 3), (7,)), ((1, 1), (2, 1), (5, 1), (7, 1)))


def with_amount(net, edge, amount):
    return (net[0], net[1], net[2][:edge] + (amount,) + net[2][edge + 1:])


def merged_by_hand(pieces, kept):
    """The table for pairs (net, names) by elimination over all nodes of all nets, the nets' inner nodes included."""
    places = {}
    joints = []
    for which, (net, names) in enumerate(pieces):
        home = home_of(net)
        for node in range(1, len(net[1]) + 1):
            places.setdefault(place_of(which, node, names), len(places))
        for edge, amount in enumerate(net[2]):
            one, other = (place_of(which, home[2 * edge + side], names) for side in (0, 1))
            joints.append((places[one], places[other], Fraction(*amount)))
    joined = {places[("name", name)] for name in kept}
    while True:
        further = {end for one, other, _ in joints for end in (one, other) if {one, other} & joined} - joined
        if not further:
            break
        joined |= further
    rows = [[Fraction(0)] * len(places) for _ in places]
    for one, other, amount in joints:
        for at, to, sign in ((one, one, 1), (other, other, 1), (one, other, -1), (other, one, -1)):
            rows[at][to] += sign * amount
    held = [places[("name", name)] for name in kept]
    for place in sorted(joined - set(held)):
        pivot = rows[place][place]
        rows = [
            row if at == place else [a - row[place] / pivot * b for a, b in zip(row, rows[place])]
            for at, row in enumerate(rows)
        ]
    return tuple(tuple(pairs_of([rows[one][other] for other in held])) for one in held)


def place_of(which, node, names):
    """Rim nodes are told by their names, inner nodes by the net that they are in."""
    return ("name", names[node - 1]) if node <= len(names) else ("inner", which, node)


class ChangedTable(unittest.TestCase):
    def test_by_hand(self):
        table = table_by_hand(SERIES)
        self.assertEqual(changed_table(table, SERIES, 1, (1, 1)), (((1, 2), (-1, 2)), ((-1, 2), (1, 2))))
        self.assertEqual(changed_table(table, SERIES, 1, (1, 2)), table)

    def test_each_edge(self):
        nets = [*DRAWINGS.values(), PARTS, dense(5, 5, 16, 1), dense(7, 6, 20, 2), grown(6, 25, 3), grown(3, 25, 4)]
        for net in nets:
            table = table_by_hand(net)
            for edge in range(len(net[2])):
                for amount in ((7, 3), (1, 10 ** 30), (10 ** 30, 7), net[2][edge]):
                    found = changed_table(table, net, edge, amount)
                    self.assertEqual(found, table_by_hand(with_amount(net, edge, amount)))
                    self.assertEqual(changed_table(table, net, edge, amount), found)

    def test_several_changes(self):
        chance = random.Random(1)
        for net in (DRAWINGS["wheel"], PARTS, dense(4, 5, 15, 2), grown(5, 20, 7)):
            table = table_by_hand(net)
            for _ in range(12):
                edge = chance.randrange(len(net[2]))
                value = Fraction(chance.randint(1, 9), chance.randint(1, 9))
                amount = (value.numerator, value.denominator)
                table = changed_table(table, net, edge, amount)
                net = with_amount(net, edge, amount)
                self.assertEqual(table, table_by_hand(net))


class MergedTable(unittest.TestCase):
    def check(self, pieces, kept):
        told = [(table_by_hand(net), names) for net, names in pieces]
        before = copy.deepcopy((told, kept))
        found = merged_table(told, kept)
        self.assertEqual((told, kept), before)
        self.assertIs(type(found), tuple)
        self.assertEqual(found, merged_by_hand(pieces, kept))
        self.assertEqual(merged_table(told, kept), found)
        return found

    def test_by_hand(self):
        edge = (2, ((0,), (1,)), ((1, 1),))
        half = (((1, 2), (-1, 2)), ((-1, 2), (1, 2)))
        self.assertEqual(self.check([(edge, ["a", "b"]), (edge, ["b", "c"])], ["a", "c"]), half)
        self.assertEqual(
            self.check([(edge, ["a", "b"]), (edge, ["b", "a"])], ["b", "a"]), (((2, 1), (-2, 1)), ((-2, 1), (2, 1)))
        )
        self.assertEqual(self.check([(edge, ["a", "a"])], ["a"]), (((0, 1),),))
        self.assertEqual(self.check([(edge, ["a", "b"])], []), ())
        # A star with two ends that are one: two edges side by side, and one in a row with them.
        two_thirds = (((2, 3), (-2, 3)), ((-2, 3), (2, 3)))
        self.assertEqual(self.check([(STAR, ["a", "b", "b"])], ["a", "b"]), two_thirds)

    def test_one_piece(self):
        for net in (*DRAWINGS.values(), PARTS, dense(6, 5, 18, 3)):
            names = [f"n{node}" for node in range(net[0])]
            self.assertEqual(self.check([(net, names)], names), table_by_hand(net))
            turned = self.check([(net, names)], names[::-1])
            self.assertEqual(turned, tuple(row[::-1] for row in table_by_hand(net)[::-1]))
            self.check([(net, names)], names[1:])
            self.check([(net, tuple(names))], names[:1])
            self.assertEqual(self.check([(net, names)], []), ())

    def test_names_twice_in_one_piece(self):
        net = dense(5, 5, 16, 3)
        for names in (["a", "b", "a", "c", "d"], ["a", "a", "b", "b", "a"], ["a"] * 5, ["", " ", "", "0", " "]):
            several = sorted(set(names))
            self.check([(net, names)], several)
            self.check([(net, names)], several[::-1])
            self.check([(net, names)], several[:1])

    def test_pieces(self):
        chance = random.Random(5)
        for seed in range(120):
            pieces = []
            for k in range(chance.randint(1, 3)):
                net = (grown if k % 2 else dense_net)(chance.randint(1, 7), chance.randint(0, 14), 10 * seed + k)
                pieces.append((net, [chance.choice("abcdefghijk") for _ in range(net[0])]))
            used = sorted({name for _, names in pieces for name in names})
            chance.shuffle(used)
            for kept in (used, used[:len(used) // 2], used[:1], []):
                self.check(pieces, list(kept))

    def test_put_in_again(self):
        chance = random.Random(8)
        for seed in range(40):
            nets = [dense(2 + (seed + k) % 6, 4, 12, seed + k) for k in range(3)]
            pieces = [(net, [chance.choice("abcdefgh") for _ in range(net[0])]) for net in nets]
            inner = sorted({name for _, names in pieces[:2] for name in names})
            others = sorted({name for name in inner if name in pieces[2][1]} | set(inner[:2]))
            chance.shuffle(others)
            first = merged_table([(table_by_hand(net), names) for net, names in pieces[:2]], others)
            # What is not in the third piece may be left out at once.
            last = (table_by_hand(nets[2]), pieces[2][1])
            kept = sorted(set(others) | set(pieces[2][1]))
            chance.shuffle(kept)
            self.assertEqual(merged_table([(first, others), last], kept), merged_by_hand(pieces, kept))
            self.assertEqual(merged_table([last, (first, others)], kept[:2]), merged_by_hand(pieces, kept[:2]))

    def test_nothing_kept_put_in_again(self):
        nothing = merged_table([(table_by_hand(STAR), ["a", "b", "c"])], [])
        self.assertEqual(nothing, ())
        self.assertEqual(merged_table([(nothing, [])], []), ())
        both = merged_table([(nothing, []), (table_by_hand(SERIES), ["a", "b"])], ["a", "b"])
        self.assertEqual(both, table_by_hand(SERIES))

    def test_no_table_in_the_disc(self):
        edge = table_by_hand((2, ((0,), (1,)), ones(1)))
        found = merged_table([(edge, ["a", "c"]), (edge, ["b", "d"])], ["a", "b", "c", "d"])
        tops = [[1, 0, -1, 0], [0, 1, 0, -1], [-1, 0, 1, 0], [0, -1, 0, 1]]
        self.assertEqual(found, tuple(tuple((top, 1) for top in row) for row in tops))

    def test_parts_that_no_kept_name_touches(self):
        self.assertEqual(self.check([(PARTS, ["a", "b", "c", "d"])], ["a", "b"]), table_of((2, ((0,), (1,)), ones(1))))
        self.check([(PARTS, ["a", "b", "c", "d"]), (STAR, ["x", "y", "z"])], ["d", "a"])
        self.check([(PARTS, ["a", "b", "c", "d"]), (STAR, ["x", "y", "z"])], ["y"])
        self.check([(PARTS, ["a", "a", "a", "d"]), (STAR, ["x", "x", "x"])], ["d"])

    def test_a_kept_name_that_is_in_no_piece(self):
        table = table_by_hand(STAR)
        for pieces, kept in (
            ([(table, ["a", "b", "c"])], ["d"]),
            ([(table, ["a", "b", "c"])], ["a", "b", "c", "d"]),
            ([(table, ["a", "b", "c"]), (table, ["a", "b", "c"])], ["", "a"]),
            ([(table, ["a", "b", "c"])], ["A"]),
        ):
            with self.assertRaises(TableError) as caught:
                merged_table(pieces, kept)
            self.assertIsInstance(caught.exception, RimError)
            self.assertIsInstance(caught.exception, ValueError)


def dense_net(rim, edges, seed):
    return dense(rim, 3, 3 + edges, seed)


if __name__ == "__main__":
    unittest.main()
