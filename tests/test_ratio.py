import random
import unittest
from fractions import Fraction

from rimohms.errors import RatioError, RimError
from rimohms.ratio import is_ratio, less, minus, opposite, over, plus, ratio, times, total


def pair(value):
    return (value.numerator, value.denominator)


def samples():
    """Small ratios of both signs and 0, and some of 300 digits and more."""
    chance = random.Random(11)
    values = [Fraction(top, bottom) for top in range(-4, 5) for bottom in (1, 2, 3, 7)]
    for digits in (1, 20, 300, 320):
        for sign in (1, -1):
            top = chance.randrange(10 ** (digits - 1), 10 ** digits)
            bottom = chance.randrange(10 ** (digits - 1), 10 ** digits)
            values.append(Fraction(sign * top, bottom))
            values.append(Fraction(sign * top))
            values.append(Fraction(sign, bottom))
    return values


class Ratios(unittest.TestCase):
    def test_signs(self):
        self.assertEqual(ratio(6, 4), (3, 2))
        self.assertEqual(ratio(-6, 4), (-3, 2))
        self.assertEqual(ratio(6, -4), (-3, 2))
        self.assertEqual(ratio(-6, -4), (3, 2))
        self.assertEqual(ratio(5, 1), (5, 1))
        self.assertEqual(ratio(5, -1), (-5, 1))
        self.assertEqual(ratio(-5, -5), (1, 1))

    def test_zero_on_top(self):
        for bottom in (1, 2, -1, -7, 10 ** 300):
            self.assertEqual(ratio(0, bottom), (0, 1))

    def test_all_small(self):
        for top in range(-12, 13):
            for bottom in range(-12, 13):
                if bottom:
                    self.assertEqual(ratio(top, bottom), pair(Fraction(top, bottom)))

    def test_long(self):
        chance = random.Random(3)
        for digits in (300, 301, 400):
            common = chance.randrange(10 ** 99, 10 ** 100)
            top = common * chance.randrange(10 ** (digits - 101), 10 ** (digits - 100))
            bottom = common * chance.randrange(10 ** (digits - 101), 10 ** (digits - 100))
            for a, b in ((top, bottom), (-top, bottom), (top, -bottom), (-top, -bottom)):
                self.assertEqual(ratio(a, b), pair(Fraction(a, b)))

    def test_bottom_zero(self):
        for top in (0, 1, -1, 10 ** 300, -(10 ** 300)):
            with self.assertRaises(RatioError):
                ratio(top, 0)
        with self.assertRaises(RimError):
            ratio(1, 0)
        with self.assertRaises(ValueError):
            ratio(1, 0)

    def test_kinds(self):
        for value in (ratio(4, 2), plus((1, 2), (1, 2)), total([]), opposite((1, 2))):
            self.assertIs(type(value), tuple)
            self.assertEqual([type(part) for part in value], [int, int])


class Reckoning(unittest.TestCase):
    def test_two(self):
        values = samples()
        for left in values:
            for right in values:
                a, b = pair(left), pair(right)
                self.assertEqual(plus(a, b), pair(left + right))
                self.assertEqual(minus(a, b), pair(left - right))
                self.assertEqual(times(a, b), pair(left * right))
                self.assertIs(less(a, b), left < right)
                if right:
                    self.assertEqual(over(a, b), pair(left / right))

    def test_by_hand(self):
        self.assertEqual(plus((1, 2), (1, 3)), (5, 6))
        self.assertEqual(minus((1, 2), (1, 2)), (0, 1))
        self.assertEqual(times((2, 3), (-3, 2)), (-1, 1))
        self.assertEqual(over((1, 2), (-3, 4)), (-2, 3))
        self.assertEqual(over((0, 1), (-3, 4)), (0, 1))
        self.assertIs(less((1, 3), (1, 2)), True)
        self.assertIs(less((1, 2), (1, 2)), False)
        self.assertIs(less((1, 2), (1, 3)), False)
        self.assertIs(less((-1, 2), (-1, 3)), True)

    def test_over_zero(self):
        for left in ((0, 1), (1, 2), (-5, 1), (10 ** 300, 7)):
            with self.assertRaises(RatioError):
                over(left, (0, 1))

    def test_opposite(self):
        for value in samples():
            self.assertEqual(opposite(pair(value)), pair(-value))
        self.assertEqual(opposite((0, 1)), (0, 1))

    def test_total(self):
        self.assertEqual(total([]), (0, 1))
        self.assertEqual(total([(3, 4)]), (3, 4))
        self.assertEqual(total([(1, 2), (1, 3), (1, 6)]), (1, 1))
        values = samples()
        self.assertEqual(total([pair(value) for value in values]), pair(sum(values)))

    def test_arguments_stay(self):
        values = [(1, 2), (-1, 3), (0, 1)]
        kept = list(values)
        first = total(values)
        self.assertEqual(values, kept)
        self.assertEqual(total(values), first)
        for function in (plus, minus, times, over, less):
            self.assertEqual(function((1, 2), (-2, 3)), function((1, 2), (-2, 3)))


class IsRatio(unittest.TestCase):
    def test_right(self):
        for value in ((0, 1), (1, 1), (-1, 1), (3, 2), (-3, 2), (10 ** 300 + 1, 10 ** 300)):
            self.assertIs(is_ratio(value), True)

    def test_not_lowest(self):
        for value in ((2, 4), (-2, 4), (5, 5), (2 * 10 ** 300, 10 ** 300)):
            self.assertIs(is_ratio(value), False)

    def test_bottom_zero(self):
        for value in ((0, 0), (1, 0), (-1, 0), (2, 0)):
            self.assertIs(is_ratio(value), False)

    def test_bottom_below_zero(self):
        for value in ((1, -1), (-1, -1), (3, -2), (-3, -2), (2, -4)):
            self.assertIs(is_ratio(value), False)

    def test_zero(self):
        self.assertIs(is_ratio((0, 1)), True)
        self.assertIs(is_ratio((0, 2)), False)
        self.assertIs(is_ratio((0, -1)), False)

    def test_made_ones(self):
        for top in range(-9, 10):
            for bottom in range(-9, 10):
                right = bottom > 0 and pair(Fraction(top, bottom)) == (top, bottom)
                self.assertIs(is_ratio((top, bottom)), right)


if __name__ == "__main__":
    unittest.main()
