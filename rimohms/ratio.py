"""Ratios: pairs (top, bottom) of integers in lowest terms with a bottom above 0."""

from math import gcd

from rimohms.errors import RatioError

ZERO = (0, 1)
ONE = (1, 1)


def ratio(top, bottom):
    """Returns the ratio of two integers. Raises RatioError if bottom is 0."""
    if bottom == 0:
        raise RatioError("a division by 0")
    common = gcd(top, bottom)
    # The sign moves to the top here, since the bottom of a ratio is above 0.
    if bottom < 0:
        common = -common
    return (top // common, bottom // common)


def plus(left, right):
    """Returns the sum of two ratios."""
    return ratio(left[0] * right[1] + right[0] * left[1], left[1] * right[1])


def minus(left, right):
    """Returns the difference of two ratios."""
    return ratio(left[0] * right[1] - right[0] * left[1], left[1] * right[1])


def times(left, right):
    """Returns the product of two ratios."""
    return ratio(left[0] * right[0], left[1] * right[1])


def over(left, right):
    """Returns the quotient of two ratios. Raises RatioError if right is 0."""
    return ratio(left[0] * right[1], left[1] * right[0])


def opposite(value):
    """Returns the ratio with the other sign."""
    return (-value[0], value[1])


def less(left, right):
    """Returns True if left is less than right, otherwise False."""
    return left[0] * right[1] < right[0] * left[1]


def total(values):
    """Returns the sum of a list of ratios, 0 for an empty one."""
    found = ZERO
    for value in values:
        found = plus(found, value)
    return found


def is_ratio(value):
    """Returns True if a pair of integers is in lowest terms with a bottom above 0, otherwise False."""
    return value[1] > 0 and gcd(value[0], value[1]) == 1
