"""Tests of stayswithin/fractions.py (points 1.1 and 1.2)."""

import itertools
import math
import unittest
from fractions import Fraction

from stayswithin import fractions
from stayswithin.fractions import (
    ONE, ZERO, added, common_divisor_of, compared, divided, fraction, greatest_divisor, is_fraction,
    is_less, subtracted, times, total)

LONG = 10 ** 400 + 7
SAMPLES = (
    (0, 1), (1, 1), (-1, 1), (1, 2), (-1, 2), (1, 3), (2, 3), (-2, 3), (7, 6), (-7, 6), (5, 1), (-5, 1),
    (LONG, 3), (-LONG, 3), (1, LONG), (-1, LONG))


def number(pair):
    """The number that a fraction stands for, by Python's own fractions."""
    return Fraction(pair[0], pair[1])


def pair(value):
    """The fraction that stands for a number."""
    return (value.numerator, value.denominator)


class Constants(unittest.TestCase):
    def test_zero_and_one(self):
        self.assertEqual(ZERO, (0, 1))
        self.assertEqual(ONE, (1, 1))
        for value in (ZERO, ONE):
            self.assertIs(type(value), tuple)
            self.assertTrue(is_fraction(value))


class Interface(unittest.TestCase):
    def test_each_function_is_defined_in_the_file(self):
        for name in ("greatest_divisor", "is_fraction", "fraction", "added", "subtracted", "times",
                     "divided", "compared", "is_less", "total", "common_divisor_of"):
            self.assertEqual(getattr(fractions, name).__module__, "stayswithin.fractions")

    def test_arguments_by_name(self):
        self.assertEqual(greatest_divisor(second=4, first=6), 2)
        self.assertTrue(is_fraction(value=ONE))
        self.assertEqual(fraction(divisor=4, number=2), (1, 2))
        self.assertEqual(added(second=ONE, first=(1, 2)), (3, 2))
        self.assertEqual(subtracted(second=ONE, first=(1, 2)), (-1, 2))
        self.assertEqual(times(second=(1, 3), first=(1, 2)), (1, 6))
        self.assertEqual(divided(second=(1, 3), first=(1, 2)), (3, 2))
        self.assertEqual(compared(second=ONE, first=ZERO), -1)
        self.assertIs(is_less(second=ONE, first=ZERO), True)
        self.assertEqual(total(fractions=[ONE]), ONE)
        self.assertEqual(common_divisor_of(fractions=[(1, 2)]), 2)

    def test_the_examples(self):
        self.assertEqual(fraction(6, -4), (-3, 2))
        self.assertEqual(added((1, 6), (1, 3)), (1, 2))


class GreatestDivisor(unittest.TestCase):
    def test_with_zero(self):
        self.assertEqual(greatest_divisor(0, 0), 0)
        for value in (1, -1, 6, -6, LONG, -LONG):
            self.assertEqual(greatest_divisor(value, 0), abs(value))
            self.assertEqual(greatest_divisor(0, value), abs(value))

    def test_with_either_sign(self):
        for left, right in itertools.product((12, -12), (18, -18)):
            self.assertEqual(greatest_divisor(left, right), 6)
            self.assertEqual(greatest_divisor(right, left), 6)

    def test_ordinary(self):
        self.assertEqual(greatest_divisor(7, 5), 1)
        self.assertEqual(greatest_divisor(4, 12), 4)
        self.assertEqual(greatest_divisor(1, -9), 1)
        self.assertEqual(greatest_divisor(5, 5), 5)

    def test_many_digits(self):
        self.assertEqual(greatest_divisor(LONG * 6, LONG * 4), LONG * 2)
        self.assertEqual(greatest_divisor(-LONG * 6, LONG * 35), LONG)

    def test_it_divides_both_and_is_the_greatest(self):
        for left, right in itertools.product(range(-13, 14), repeat=2):
            if left or right:
                wanted = max(k for k in range(1, 14) if left % k == 0 and right % k == 0)
                self.assertEqual(greatest_divisor(left, right), wanted)


class IsFraction(unittest.TestCase):
    def check(self, wanted, values):
        for value in values:
            with self.subTest(repr(value)[:60]):
                self.assertIs(is_fraction(value), wanted)

    def test_fractions(self):
        self.check(True, SAMPLES)
        self.check(True, ((3, 2), (-3, 2), (LONG, LONG + 1)))

    def test_not_in_lowest_terms(self):
        self.check(False, ((2, 4), (-2, 4), (0, 2), (0, LONG), (3, 3), (-6, 3), (2 * LONG, 2)))

    def test_a_divisor_below_one(self):
        self.check(False, ((0, 0), (1, 0), (-1, 0), (5, 0), (1, -1), (0, -1), (1, -2), (-1, -2), (3, -LONG)))

    def test_parts_of_other_kinds(self):
        for odd in (True, False, None, "", "1", "ab", (), (1,), (1, 1), [], [1], [[None]], ((1, 1), (1, 1))):
            self.check(False, ((odd, 1), (1, odd), (odd, odd), (0, odd), (odd, 2)))

    def test_another_number_of_parts(self):
        self.check(False, ((), (1,), (0,), (1, 1, 1), (1, 2, 3, 4), ((1, 1),), ((1, 1), (1, 2))))

    def test_lists(self):
        self.check(False, ([], [1], [1, 2], [0, 1], [(1, 2)], [[1, 2]], [1, 2, 3]))

    def test_values_that_are_no_tuples(self):
        self.check(False, (0, 1, -1, LONG, True, False, None, "", "1", "12", "1/2", "ab"))


class MakingFractions(unittest.TestCase):
    def test_either_sign_of_both(self):
        self.assertEqual(fraction(3, 2), (3, 2))
        self.assertEqual(fraction(-3, 2), (-3, 2))
        self.assertEqual(fraction(3, -2), (-3, 2))
        self.assertEqual(fraction(-3, -2), (3, 2))

    def test_number_zero(self):
        for divisor in (1, -1, 2, -2, 7, LONG, -LONG):
            self.assertEqual(fraction(0, divisor), (0, 1))

    def test_common_factors(self):
        self.assertEqual(fraction(12, 18), (2, 3))
        self.assertEqual(fraction(-12, 18), (-2, 3))
        self.assertEqual(fraction(12, -18), (-2, 3))
        self.assertEqual(fraction(-12, -18), (2, 3))
        self.assertEqual(fraction(6, 3), (2, 1))
        self.assertEqual(fraction(6, -6), (-1, 1))

    def test_the_divisor_is_one_if_not_passed(self):
        for value in (0, 1, -1, 8, -8, LONG):
            self.assertEqual(fraction(value), (value, 1))
            self.assertEqual(fraction(value, 1), (value, 1))
            self.assertEqual(fraction(value, -1), (-value, 1))

    def test_many_digits(self):
        self.assertEqual(fraction(LONG * 10, LONG * 4), (5, 2))
        self.assertEqual(fraction(LONG * 10, -(LONG + 1)), pair(Fraction(-LONG * 10, LONG + 1)))
        # Beyond what a float can tell apart.
        self.assertEqual(fraction(2 ** 2000 + 1, 2 ** 2000), (2 ** 2000 + 1, 2 ** 2000))

    def test_all_small_ones_are_fractions_and_equal_numbers_are_equal_tuples(self):
        for above, below in itertools.product(range(-12, 13), repeat=2):
            if below:
                made = fraction(above, below)
                self.assertIs(type(made), tuple)
                self.assertTrue(is_fraction(made))
                self.assertEqual(made, pair(Fraction(above, below)))


class Arithmetic(unittest.TestCase):
    def check(self, function, wanted, second_is_not_zero=False):
        for first, second in itertools.product(SAMPLES, repeat=2):
            if second_is_not_zero and second == ZERO:
                continue
            with self.subTest(first=repr(first)[:40], second=repr(second)[:40]):
                result = function(first, second)
                self.assertTrue(is_fraction(result))
                self.assertEqual(result, pair(wanted(number(first), number(second))))

    def test_added(self):
        self.check(added, lambda a, b: a + b)
        self.assertEqual(added((1, 2), (-1, 2)), (0, 1))
        self.assertEqual(added((1, 4), (1, 4)), (1, 2))
        self.assertEqual(added((-2, 3), (0, 1)), (-2, 3))

    def test_subtracted(self):
        self.check(subtracted, lambda a, b: a - b)
        self.assertEqual(subtracted((1, 2), (1, 2)), (0, 1))
        self.assertEqual(subtracted((0, 1), (1, 3)), (-1, 3))
        self.assertEqual(subtracted((1, 2), (1, 3)), (1, 6))
        self.assertEqual(subtracted((1, 3), (1, 2)), (-1, 6))

    def test_times(self):
        self.check(times, lambda a, b: a * b)
        self.assertEqual(times((2, 3), (3, 2)), (1, 1))
        self.assertEqual(times((-2, 3), (-3, 4)), (1, 2))
        self.assertEqual(times((-2, 3), (0, 1)), (0, 1))

    def test_divided(self):
        self.check(divided, lambda a, b: a / b, second_is_not_zero=True)
        self.assertEqual(divided((1, 2), (-1, 3)), (-3, 2))
        self.assertEqual(divided((-1, 2), (-1, 2)), (1, 1))
        self.assertEqual(divided((0, 1), (-5, 7)), (0, 1))


class Comparing(unittest.TestCase):
    def test_every_pair(self):
        for first, second in itertools.product(SAMPLES, repeat=2):
            left, right = number(first), number(second)
            with self.subTest(first=repr(first)[:40], second=repr(second)[:40]):
                self.assertEqual(compared(first, second), (left > right) - (left < right))
                self.assertIs(is_less(first, second), left < right)

    def test_kinds_of_cases(self):
        for first, second, wanted in (
                ((1, 2), (1, 2), 0), ((0, 1), (0, 1), 0), ((-3, 4), (-3, 4), 0),
                ((1, 2), (-1, 2), 1), ((-1, 2), (1, 2), -1), ((-1, 2), (-1, 3), -1), ((-1, 3), (-1, 2), 1),
                ((0, 1), (-1, 9), 1), ((0, 1), (1, 9), -1), ((1, 3), (2, 5), -1), ((2, 5), (1, 3), 1)):
            self.assertEqual(compared(first, second), wanted)
            self.assertIs(type(compared(first, second)), int)
            self.assertIs(is_less(first, second), wanted == -1)

    def test_many_digits_that_differ_in_the_last_place(self):
        self.assertEqual(compared((LONG, LONG + 1), (LONG + 1, LONG + 2)), -1)
        self.assertEqual(compared((LONG + 1, LONG + 2), (LONG, LONG + 1)), 1)
        self.assertIs(is_less((LONG, LONG + 1), (LONG + 1, LONG + 2)), True)


class Sums(unittest.TestCase):
    def test_empty(self):
        self.assertEqual(total([]), (0, 1))
        self.assertEqual(total(()), (0, 1))

    def test_one(self):
        for value in SAMPLES:
            self.assertEqual(total([value]), value)
            self.assertEqual(total((value,)), value)

    def test_longer_ones(self):
        self.assertEqual(total([(1, 2), (1, 3), (1, 6)]), (1, 1))
        self.assertEqual(total(((1, 2), (-1, 3), (-1, 6))), (0, 1))
        self.assertEqual(total([(1, 2)] * 3), (3, 2))
        wanted = pair(sum((number(value) for value in SAMPLES), Fraction(0)))
        self.assertEqual(total(list(SAMPLES)), wanted)
        self.assertEqual(total(SAMPLES), wanted)
        self.assertEqual(total([(1, k) for k in range(1, 101)]), pair(sum(Fraction(1, k) for k in range(1, 101))))

    def test_what_is_passed_stays_as_it_was(self):
        passed = [(1, 2), (2, 3), (-1, 6)]
        total(passed)
        common_divisor_of(passed)
        self.assertEqual(passed, [(1, 2), (2, 3), (-1, 6)])


class CommonDivisor(unittest.TestCase):
    def test_none(self):
        self.assertEqual(common_divisor_of([]), 1)
        self.assertEqual(common_divisor_of(()), 1)

    def test_one(self):
        self.assertEqual(common_divisor_of([(5, 1)]), 1)
        self.assertEqual(common_divisor_of(((-5, 12),)), 12)
        self.assertEqual(common_divisor_of([(0, 1)]), 1)

    def test_several(self):
        self.assertEqual(common_divisor_of([(1, 4), (1, 6)]), 12)
        self.assertEqual(common_divisor_of(((1, 2), (3, 4), (-1, 8))), 8)
        self.assertEqual(common_divisor_of([(1, 2), (1, 3), (1, 5), (4, 1)]), 30)
        self.assertEqual(common_divisor_of([(1, 6), (1, 10), (1, 15)]), 30)
        self.assertEqual(common_divisor_of([(1, 7), (2, 7)]), 7)
        self.assertEqual(common_divisor_of([(1, k) for k in range(1, 61)]), math.lcm(*range(1, 61)))
        self.assertEqual(common_divisor_of([(1, LONG), (1, 2 * LONG)]), 2 * LONG)


if __name__ == "__main__":
    unittest.main()
