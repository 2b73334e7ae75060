import copy
import random
import unittest
from fractions import Fraction

from nets import determinant_by_orders, fractions_of, pairs_of
from rimohms.linear import determinant, solved


def chance_rows(chance, size, zeros):
    """Rows of Fractions in which about this many of ten entries are 0."""
    return [
        [
            Fraction(0) if chance.randrange(10) < zeros else Fraction(chance.randint(-9, 9), chance.randint(1, 9))
            for _ in range(size)
        ]
        for _ in range(size)
    ]


def as_pairs(rows):
    return [pairs_of(row) for row in rows]


def as_pair(value):
    return (value.numerator, value.denominator)


class Determinant(unittest.TestCase):
    def test_no_rows(self):
        self.assertEqual(determinant([]), (1, 1))

    def test_one_row(self):
        for value in ((0, 1), (3, 4), (-3, 4)):
            self.assertEqual(determinant([[value]]), value)

    def test_by_hand(self):
        self.assertEqual(determinant([[(0, 1), (1, 1)], [(1, 1), (0, 1)]]), (-1, 1))
        self.assertEqual(determinant([[(1, 2), (1, 3)], [(1, 4), (1, 5)]]), (1, 60))
        self.assertEqual(determinant([[(1, 1), (2, 1)], [(2, 1), (4, 1)]]), (0, 1))

    def test_against_all_orders(self):
        chance = random.Random(4)
        for size in range(1, 7):
            for zeros in (0, 3, 5, 7, 9):
                for _ in range(6):
                    rows = chance_rows(chance, size, zeros)
                    self.assertEqual(determinant(as_pairs(rows)), as_pair(determinant_by_orders(rows)))

    def test_orders_of_unit_rows(self):
        chance = random.Random(5)
        for size in range(1, 7):
            for _ in range(10):
                places = list(range(size))
                chance.shuffle(places)
                rows = [[Fraction(int(j == place)) for j in range(size)] for place in places]
                self.assertEqual(determinant(as_pairs(rows)), as_pair(determinant_by_orders(rows)))

    def test_multiples(self):
        chance = random.Random(6)
        for size in range(2, 7):
            for _ in range(8):
                rows = chance_rows(chance, size, 2)
                one, other = chance.sample(range(size), 2)
                share = Fraction(chance.randint(-5, 5), 3)
                rows[one] = [share * value for value in rows[other]]
                self.assertEqual(determinant(as_pairs(rows)), (0, 1))

    def test_long(self):
        chance = random.Random(7)
        rows = [
            [Fraction(chance.randrange(10 ** 299, 10 ** 300), chance.randrange(10 ** 299, 10 ** 300)) for _ in range(4)]
            for _ in range(4)
        ]
        self.assertEqual(determinant(as_pairs(rows)), as_pair(determinant_by_orders(rows)))

    def test_rows_stay(self):
        chance = random.Random(8)
        for size in range(6):
            rows = as_pairs(chance_rows(chance, size, 5))
            kept = copy.deepcopy(rows)
            value = determinant(rows)
            self.assertEqual(rows, kept)
            self.assertEqual(determinant(rows), value)


class Solved(unittest.TestCase):
    def test_no_rows(self):
        self.assertEqual(solved([], []), [])

    def test_by_hand(self):
        self.assertEqual(solved([[(2, 1)]], [(3, 1)]), [(3, 2)])
        self.assertEqual(solved([[(0, 1), (2, 1)], [(3, 1), (0, 1)]], [(1, 1), (1, 1)]), [(1, 3), (1, 2)])

    def test_put_back(self):
        chance = random.Random(9)
        solved_ones = 0
        for size in range(1, 8):
            for zeros in (0, 3, 5, 7):
                for _ in range(8):
                    rows = chance_rows(chance, size, zeros)
                    if size < 7 and determinant_by_orders(rows) == 0:
                        continue
                    if determinant(as_pairs(rows)) == (0, 1):
                        continue
                    right = chance_rows(chance, size, 4)[0]
                    found = solved(as_pairs(rows), pairs_of(right))
                    self.assertIs(type(found), list)
                    values = fractions_of(found)
                    self.assertEqual(pairs_of(values), found)
                    for row, value in zip(rows, right):
                        self.assertEqual(sum(a * x for a, x in zip(row, values)), value)
                    solved_ones += 1
        self.assertGreater(solved_ones, 100)

    def test_rows_stay(self):
        rows = [[(0, 1), (2, 3)], [(5, 1), (1, 1)]]
        right = [(1, 2), (-1, 1)]
        kept = copy.deepcopy((rows, right))
        found = solved(rows, right)
        self.assertEqual((rows, right), kept)
        self.assertEqual(solved(rows, right), found)


if __name__ == "__main__":
    unittest.main()
