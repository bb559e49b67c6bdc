"""Exact fractions: tuples (number, divisor) in lowest terms, the divisor at least 1."""

from math import gcd, lcm

ZERO = (0, 1)
ONE = (1, 1)


def is_whole(value):
    """Tell whether a value is an integer; True and False are none."""
    return isinstance(value, int) and not isinstance(value, bool)


def greatest_divisor(first, second):
    """Return the greatest integer that divides both integers, 0 if both are 0."""
    return gcd(first, second)


def is_fraction(value):
    """Tell whether a value is a fraction."""
    if not isinstance(value, tuple) or len(value) != 2:
        return False
    number, divisor = value
    if not is_whole(number) or not is_whole(divisor):
        return False
    return divisor >= 1 and greatest_divisor(number, divisor) == 1


def fraction(number, divisor=1):
    """Return the fraction number / divisor; the divisor is not 0."""
    shared = greatest_divisor(number, divisor)
    if divisor < 0:
        shared = -shared
    return (number // shared, divisor // shared)


def added(first, second):
    """Return the sum of two fractions."""
    return fraction(first[0] * second[1] + second[0] * first[1], first[1] * second[1])


def subtracted(first, second):
    """Return the first fraction less the second one."""
    return fraction(first[0] * second[1] - second[0] * first[1], first[1] * second[1])


def times(first, second):
    """Return the product of two fractions."""
    return fraction(first[0] * second[0], first[1] * second[1])


def divided(first, second):
    """Return the first fraction divided by the second one, which is not 0."""
    return fraction(first[0] * second[1], first[1] * second[0])


def compared(first, second):
    """Return -1 if the first fraction is less, 0 if they are equal, 1 if it is greater."""
    left = first[0] * second[1]
    right = second[0] * first[1]
    if left < right:
        return -1
    if left > right:
        return 1
    return 0


def is_less(first, second):
    """Tell whether the first fraction is less than the second one."""
    return compared(first, second) < 0


def total(fractions):
    """Return the sum of a list or tuple of fractions, 0 if it is empty."""
    # Over one common divisor the sum is put into lowest terms once, not at every item.
    common = common_divisor_of(fractions)
    numbers = [number * (common // divisor) for number, divisor in fractions]
    return fraction(sum(numbers), common)


def common_divisor_of(fractions):
    """Return the least integer from 1 on that all divisors of the fractions divide."""
    common = 1
    for part in fractions:
        common = lcm(common, part[1])
    return common
