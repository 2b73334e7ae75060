import random
import unittest
from fractions import Fraction

from nets import DRAWINGS, STAR, dense, grown, pairs_of, table_by_hand
from rimohms.minors import circular_pairs, minor, refusal
from tables import faults, hand_minor, pairs_by_words, table_from, three_heads, well_joined, with_entry


class CircularPairs(unittest.TestCase):
    def test_by_hand(self):
        self.assertEqual(circular_pairs(1), [])
        self.assertEqual(circular_pairs(2), [((1,), (2,))])
        self.assertEqual(sorted(circular_pairs(3)), [((1,), (2,)), ((1,), (3,)), ((2,), (3,))])
        self.assertEqual(
            sorted(pair for pair in circular_pairs(4) if len(pair[0]) == 2),
            [((1, 2), (4, 3)), ((4, 1), (3, 2))],
        )
        self.assertIn(((5, 6, 1), (4, 3, 2)), circular_pairs(6))

    def test_by_words(self):
        for rim in range(1, 8):
            found = circular_pairs(rim)
            self.assertIs(type(found), list)
            self.assertEqual(len(set(found)), len(found))
            self.assertEqual(sorted(found), sorted(pairs_by_words(rim)))
        self.assertEqual(len(circular_pairs(7)), 112)

    def test_again(self):
        found = circular_pairs(5)
        kept = list(found)
        found.clear()
        self.assertEqual(circular_pairs(5), kept)


class Minor(unittest.TestCase):
    def test_by_hand(self):
        table = DRAWINGS["triangle"]
        self.assertEqual(minor(table_by_hand(table), (1,), (2,)), (1, 1))
        self.assertEqual(minor(table_by_hand(table), (3,), (1,)), (3, 1))
        self.assertEqual(minor(table_by_hand(STAR), (1,), (3,)), (1, 3))
        rows = table_from({(1, 4): 2, (2, 3): 3, (1, 3): 5, (2, 4): 7}, 4)
        self.assertEqual(minor(rows, (1, 2), (4, 3)), (2 * 3 - 5 * 7, 1))

    def test_against_all_orders(self):
        chance = random.Random(4)
        for rim in range(1, 8):
            # The rows of the heads and the columns of the tails are told apart only by a table without a mirror image.
            values = [[Fraction(chance.randint(-9, 9), chance.randint(1, 4)) for _ in range(rim)] for _ in range(rim)]
            table = tuple(tuple(pairs_of(row)) for row in values)
            for heads, tails in pairs_by_words(rim):
                found = minor(table, heads, tails)
                hand = hand_minor(table, heads, tails)
                self.assertEqual(found, (hand.numerator, hand.denominator))
                self.assertEqual(minor(table, heads, tails), found)

    def test_tables_of_nets(self):
        for seed in range(12):
            table = table_by_hand(grown(2 + seed % 6, 20, seed))
            for heads, tails in pairs_by_words(len(table)):
                found = minor(table, heads, tails)
                hand = hand_minor(table, heads, tails)
                self.assertEqual(found, (hand.numerator, hand.denominator))
                self.assertGreaterEqual(found[0], 0)


class Refusal(unittest.TestCase):
    def check(self, table):
        found = refusal(table)
        wrong = faults(table)
        if wrong:
            self.assertIn(found, wrong)
        else:
            self.assertIsNone(found)
        self.assertEqual(refusal(table), found)
        return found

    def test_tables_of_nets(self):
        for net in DRAWINGS.values():
            self.assertIsNone(self.check(table_by_hand(net)))
        for seed in range(14):
            self.assertIsNone(self.check(table_by_hand(grown(1 + seed % 7, 3 * seed, seed))))
            self.assertIsNone(self.check(table_by_hand(dense(1 + seed % 7, 8, 25, seed))))

    def test_one_row(self):
        self.assertIsNone(self.check((((0, 1),),)))
        self.assertEqual(self.check((((1, 2),),)), ("sum", 1))
        self.assertEqual(self.check((((-3, 1),),)), ("sum", 1))

    def test_one_entry_changed(self):
        for net in (STAR, dense(4, 5, 16, 1), dense(7, 8, 30, 2), DRAWINGS["triple"]):
            table = table_by_hand(net)
            for i in range(1, len(table) + 1):
                for j in range(1, len(table) + 1):
                    for change in (Fraction(1, 1000), Fraction(-3)):
                        changed = with_entry(table, i, j, Fraction(*table[i - 1][j - 1]) + change)
                        self.assertIsNotNone(self.check(changed))

    def test_mirror_alone(self):
        # The sums are 0, and the minors are those of the rows of the lesser nodes.
        table = (
            ((3, 1), (-1, 1), (-2, 1)),
            ((-2, 1), (3, 1), (-1, 1)),
            ((-1, 1), (-2, 1), (3, 1)),
        )
        self.assertEqual(self.check(table)[0], "mirror")

    def test_sum_alone(self):
        table = table_by_hand(STAR)
        for i in (1, 2, 3):
            self.assertEqual(self.check(with_entry(table, i, i, Fraction(9, 10))), ("sum", i))

    def test_minor_of_one_head(self):
        for rim in range(2, 8):
            for i, j in ((1, 2), (1, rim), (rim - 1, rim), (rim // 2, rim)):
                if i == j:
                    continue
                joints = well_joined(rim)
                joints[(i, j)] = Fraction(-1, 1000)
                self.assertEqual(self.check(table_from(joints, rim))[0], "minor")
        self.assertEqual(self.check(table_from({(2, 4): -1}, 5)), ("minor", (2,), (4,)))

    def test_minor_of_two_heads(self):
        joints = well_joined(4)
        joints[(1, 3)] += 1
        joints[(2, 4)] += 1
        found = self.check(table_from(joints, 4))
        self.assertEqual((found[0], len(found[1])), ("minor", 2))
        # Two edges that cross, in rims of 5 to 7 nodes.
        for rim in (5, 6, 7):
            found = self.check(table_from({(2, 4): 1, (3, rim): 1}, rim))
            self.assertEqual(found, ("minor", (2, 3), (rim, 4)))

    def test_minor_of_three_heads(self):
        for rim in (6, 7):
            for shift in range(rim):
                table = three_heads(rim, shift)
                wrong = faults(table)
                self.assertEqual({(fault[0], len(fault[1])) for fault in wrong}, {("minor", 3)})
                self.assertIn(self.check(table), wrong)

    def test_zero_minors_are_not_refused(self):
        self.assertIsNone(self.check(table_from({}, 7)))
        self.assertIsNone(self.check(table_from({(1, 4): 1, (5, 7): 2}, 7)))

    def test_seven_rows(self):
        self.assertIsNone(self.check(table_from(well_joined(7), 7)))
        joints = well_joined(7)
        joints[(3, 6)] += 2
        self.assertIsNotNone(self.check(table_from(joints, 7)))

    def test_random_tables(self):
        chance = random.Random(9)
        for _ in range(60):
            rim = chance.randint(2, 7)
            joints = {
                (i, j): Fraction(chance.randint(0, 6), 1 + (j - i) * (rim + i - j))
                for j in range(2, rim + 1) for i in range(1, j)
            }
            self.check(table_from(joints, rim))

    def test_long_numbers(self):
        top = 10 ** 299 + 1
        table = table_from({(1, 2): Fraction(top, 3), (2, 3): Fraction(7, top), (1, 3): Fraction(top, top + 2)}, 3)
        self.assertIsNone(self.check(table))
        self.assertIsNotNone(self.check(with_entry(table, 2, 2, Fraction(top, 3) + Fraction(8, top))))


if __name__ == "__main__":
    unittest.main()
