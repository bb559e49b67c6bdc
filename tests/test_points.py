"""Tests of stayswithin/points.py (points 1.3 to 1.5)."""

import copy
import unittest
from fractions import Fraction

from stayswithin import points
from stayswithin.errors import BadPoint, BadWeights
from stayswithin.points import (
    check_points, check_weights, dot, image, integers_of, is_point, mixed, point_of, scaled, sum_of)

LONG = 10 ** 400 + 7
P = ((1, 2), (-2, 3), (0, 1))
Q = ((1, 2), (5, 3), (-7, 1))
NOT_FRACTIONS = (
    (2, 4), (0, 2), (1, 0), (1, -1), (True, 1), (1, True), (1, None), ("1", 1), (1,), (1, 1, 1), (), [1, 1],
    0, 1, True, False, None, "", "1/2", ((1, 1),), [(1, 1)])
NO_POINTS = (None, True, False, 0, 1, 7, "", "a", "ab", [], [(1, 1)], [(1, 1), (1, 1)])


class Interface(unittest.TestCase):
    def test_each_function_is_defined_in_the_file(self):
        for name in ("is_point", "check_points", "point_of", "sum_of", "scaled", "dot", "image",
                     "check_weights", "mixed", "integers_of"):
            self.assertEqual(getattr(points, name).__module__, "stayswithin.points")

    def test_arguments_by_name(self):
        self.assertTrue(is_point(count=3, value=P))
        self.assertIsNone(check_points(count=3, points=[P]))
        self.assertEqual(point_of(divisor=2, numbers=[1]), ((1, 2),))
        self.assertEqual(sum_of(second=((1, 2),), first=((1, 3),)), ((5, 6),))
        self.assertEqual(scaled(factor=(2, 1), point=((1, 3),)), ((2, 3),))
        self.assertEqual(dot(point=((1, 3),), row=(2,)), (2, 3))
        self.assertEqual(image(point=((1, 3),), matrix=((2,),)), ((2, 3),))
        self.assertIsNone(check_weights(count=1, weights=((1, 1),)))
        self.assertEqual(mixed(points=[P], weights=((1, 1),)), P)
        self.assertEqual(integers_of(point=((1, 3),)), (3, (1,)))

    def test_the_examples(self):
        self.assertEqual(image([[1, 2], [0, 3]], ((1, 2), (1, 3))), ((7, 6), (1, 1)))
        self.assertEqual(mixed(((1, 4), (3, 4)), [((0, 1),), ((2, 1),)]), ((3, 2),))


class IsPoint(unittest.TestCase):
    def test_points(self):
        self.assertIs(is_point((), 0), True)
        self.assertIs(is_point(((1, 2),), 1), True)
        self.assertIs(is_point(P, 3), True)
        self.assertIs(is_point(((LONG, 3), (-1, LONG)), 2), True)

    def test_one_more_or_fewer(self):
        for count in (0, 1, 2, 4, 5):
            self.assertIs(is_point(P, count), False)
        self.assertIs(is_point((), 1), False)
        self.assertIs(is_point(((1, 2),), 0), False)

    def test_faulty_coordinates(self):
        for odd in NOT_FRACTIONS:
            with self.subTest(repr(odd)):
                self.assertIs(is_point((odd,), 1), False)
                self.assertIs(is_point((odd, (1, 2)), 2), False)
                self.assertIs(is_point(((1, 2), odd), 2), False)
                self.assertIs(is_point(((1, 2), odd, (1, 2)), 3), False)

    def test_lists(self):
        self.assertIs(is_point([], 0), False)
        self.assertIs(is_point([(1, 2)], 1), False)
        self.assertIs(is_point(list(P), 3), False)
        self.assertIs(is_point(([1, 2],), 1), False)

    def test_a_fraction_is_no_point(self):
        self.assertIs(is_point((1, 2), 1), False)
        self.assertIs(is_point((1, 2), 2), False)

    def test_other_values(self):
        for value in NO_POINTS:
            for count in (0, 1, 2):
                with self.subTest(repr(value), count=count):
                    self.assertIs(is_point(value, count), False)


class CheckPoints(unittest.TestCase):
    def place(self, items, count):
        with self.assertRaises(BadPoint) as caught:
            check_points(items, count)
        return caught.exception.place

    def test_good_ones(self):
        self.assertIsNone(check_points([], 2))
        self.assertIsNone(check_points((), 0))
        self.assertIsNone(check_points([(), ()], 0))
        self.assertIsNone(check_points([P, Q, P], 3))
        self.assertIsNone(check_points((P, Q), 3))

    def test_the_index_of_the_first_one(self):
        for odd in (*NO_POINTS, *((coordinate,) * 3 for coordinate in NOT_FRACTIONS)):
            with self.subTest(repr(odd)):
                self.assertEqual(self.place([odd], 3), 0)
                self.assertEqual(self.place((odd, P), 3), 0)
                self.assertEqual(self.place([P, odd, Q], 3), 1)
                self.assertEqual(self.place((P, Q, odd), 3), 2)
                self.assertEqual(self.place([P, odd, Q, odd], 3), 1)

    def test_one_more_or_fewer(self):
        self.assertEqual(self.place([P, P[:2], P], 3), 1)
        self.assertEqual(self.place([P, P, P + P[:1]], 3), 2)
        self.assertEqual(self.place([P], 2), 0)
        self.assertEqual(self.place([(), ((1, 1),)], 0), 1)

    def test_lists_as_points(self):
        self.assertEqual(self.place([P, list(P)], 3), 1)
        self.assertEqual(self.place([(), []], 0), 1)


class PointOf(unittest.TestCase):
    def test_without_a_divisor(self):
        self.assertEqual(point_of([3, -2, 0]), ((3, 1), (-2, 1), (0, 1)))
        self.assertEqual(point_of((3, -2, 0)), ((3, 1), (-2, 1), (0, 1)))

    def test_with_either_sign_of_the_divisor(self):
        self.assertEqual(point_of([3, -2, 0, 4], 4), ((3, 4), (-1, 2), (0, 1), (1, 1)))
        self.assertEqual(point_of([3, -2, 0, 4], -4), ((-3, 4), (1, 2), (0, 1), (-1, 1)))
        self.assertEqual(point_of((3, 5), -1), ((-3, 1), (-5, 1)))

    def test_no_numbers(self):
        self.assertEqual(point_of([]), ())
        self.assertEqual(point_of((), -3), ())

    def test_many_digits(self):
        self.assertEqual(point_of([LONG, 2 * LONG], 2 * LONG), ((1, 2), (1, 1)))


class SumsAndMultiples(unittest.TestCase):
    def test_sum_of(self):
        self.assertEqual(sum_of(P, Q), ((1, 1), (1, 1), (-7, 1)))
        self.assertEqual(sum_of(list(P), list(Q)), ((1, 1), (1, 1), (-7, 1)))
        self.assertEqual(sum_of(P, list(Q)), ((1, 1), (1, 1), (-7, 1)))
        self.assertEqual(sum_of(((1, 3),), ((-1, 3),)), ((0, 1),))
        self.assertEqual(sum_of((), ()), ())

    def test_scaled(self):
        self.assertEqual(scaled(P, (3, 2)), ((3, 4), (-1, 1), (0, 1)))
        self.assertEqual(scaled(list(P), (3, 2)), ((3, 4), (-1, 1), (0, 1)))
        self.assertEqual(scaled(P, (-1, 1)), ((-1, 2), (2, 3), (0, 1)))
        self.assertEqual(scaled(P, (0, 1)), ((0, 1),) * 3)
        self.assertEqual(scaled(P, (1, 1)), P)
        self.assertEqual(scaled((), (5, 1)), ())
        self.assertEqual(scaled(((1, LONG),), (LONG, 2)), ((1, 2),))


class RowsAndMatrices(unittest.TestCase):
    def test_dot(self):
        for row in ((2, 3, 5), [2, 3, 5]):
            for point in (P, list(P)):
                self.assertEqual(dot(row, point), (-1, 1))
        self.assertEqual(dot((1, 2), ((1, 2), (1, 3))), (7, 6))
        self.assertEqual(dot((-1, 0), ((1, 2), (1, 3))), (-1, 2))
        self.assertEqual(dot((4, -6), ((1, 2), (1, 3))), (0, 1))
        self.assertEqual(dot((0, 0), ((1, 2), (1, 3))), (0, 1))
        self.assertEqual(dot((2,), ((1, 2),)), (1, 1))

    def test_dot_without_coordinates(self):
        self.assertEqual(dot((), ()), (0, 1))
        self.assertEqual(dot([], ()), (0, 1))

    def test_dot_with_many_digits(self):
        wanted = Fraction(LONG, 3) - Fraction(LONG + 1, 7)
        self.assertEqual(dot((LONG, -LONG - 1), ((1, 3), (1, 7))), (wanted.numerator, wanted.denominator))
        self.assertEqual(dot((LONG, 1), ((1, LONG), (0, 1))), (1, 1))

    def test_image(self):
        rows = [(2, 3, 5), [1, 0, 0], (0, 0, -1)]
        for matrix in (rows, tuple(rows)):
            for point in (P, list(P)):
                self.assertEqual(image(matrix, point), ((-1, 1), (1, 2), (0, 1)))

    def test_image_is_in_the_order_of_the_rows(self):
        self.assertEqual(image(((0, 1), (1, 0)), ((1, 2), (1, 3))), ((1, 3), (1, 2)))

    def test_image_with_other_numbers_of_rows(self):
        self.assertEqual(image([], P), ())
        self.assertEqual(image(((1, 1, 1),), P), ((-1, 6),))
        self.assertEqual(image(((), ()), ()), ((0, 1), (0, 1)))
        self.assertEqual(image([[1], [2], [3]], ((1, 2),)), ((1, 2), (1, 1), (3, 2)))


class CheckWeights(unittest.TestCase):
    def place(self, weights, count):
        with self.assertRaises(BadWeights) as caught:
            check_weights(weights, count)
        return caught.exception.place

    def test_good_ones(self):
        self.assertIsNone(check_weights(((1, 1),), 1))
        self.assertIsNone(check_weights(((1, 4), (3, 4)), 2))
        self.assertIsNone(check_weights(((0, 1), (1, 1), (0, 1)), 3))
        self.assertIsNone(check_weights(((1, 2), (1, 3), (1, 6)), 3))
        self.assertIsNone(check_weights(((1, LONG), (LONG - 1, LONG)), 2))

    def test_no_tuple_of_that_many(self):
        good = ((1, 4), (3, 4))
        for weights, count in (
                (list(good), 2), (good, 1), (good, 3), (good, 0), ((), 1), ([], 0), ([], 1), (None, 1),
                (True, 1), (1, 1), ("a", 1), ("ab", 2), ([(1, 1)], 1)):
            with self.subTest(repr(weights), count=count):
                self.assertIsNone(self.place(weights, count))

    def test_the_first_that_is_no_fraction_of_at_least_zero(self):
        for odd in (*NOT_FRACTIONS, (-1, 2), (-1, 1), (-LONG, 3)):
            with self.subTest(repr(odd)[:40]):
                self.assertEqual(self.place((odd,), 1), 0)
                self.assertEqual(self.place(((1, 2), odd, (1, 2)), 3), 1)
                self.assertEqual(self.place(((1, 2), (1, 2), odd), 3), 2)
                self.assertEqual(self.place(((1, 2), odd, (-1, 2), odd), 4), 1)

    def test_the_sum_is_not_one(self):
        for weights in (((1, 2),), ((2, 1),), ((0, 1),), ((1, 2), (1, 3)), ((1, 1), (1, 1)),
                        ((1, LONG), (LONG, LONG + 1)), ((0, 1), (0, 1))):
            self.assertIsNone(self.place(weights, len(weights)))
        self.assertIsNone(self.place((), 0))

    def test_the_order_of_the_faults(self):
        # A wrong number of items comes before a wrong item, and that before a wrong sum.
        self.assertIsNone(self.place(((1, 2), "a"), 3))
        self.assertIsNone(self.place([(1, 2), (-1, 2)], 2))
        self.assertEqual(self.place(((5, 1), (2, 4)), 2), 1)
        self.assertEqual(self.place(((3, 2), (-1, 2)), 2), 1)


class Mixed(unittest.TestCase):
    def test_one_point(self):
        self.assertEqual(mixed(((1, 1),), [P]), P)
        self.assertEqual(mixed(((1, 1),), (P,)), P)

    def test_several_points(self):
        corners = [((0, 1), (0, 1)), ((4, 1), (0, 1)), ((0, 1), (8, 1))]
        weights = ((1, 2), (1, 4), (1, 4))
        self.assertEqual(mixed(weights, corners), ((1, 1), (2, 1)))
        self.assertEqual(mixed(weights, tuple(corners)), ((1, 1), (2, 1)))
        self.assertEqual(mixed(((1, 3), (2, 3)), [P, Q]), ((1, 2), (8, 9), (-14, 3)))
        self.assertEqual(mixed(((2, 3), (1, 3)), [P, Q]), ((1, 2), (1, 9), (-7, 3)))

    def test_weights_of_zero(self):
        self.assertEqual(mixed(((0, 1), (1, 1)), [P, Q]), Q)
        self.assertEqual(mixed(((1, 1), (0, 1)), [P, Q]), P)
        self.assertEqual(mixed(((0, 1), (1, 1), (0, 1)), [P, Q, P]), Q)

    def test_equal_points(self):
        self.assertEqual(mixed(((1, 2), (1, 3), (1, 6)), [P, P, P]), P)

    def test_points_without_coordinates(self):
        self.assertEqual(mixed(((1, 2), (1, 2)), [(), ()]), ())


class IntegersOf(unittest.TestCase):
    def test_ordinary(self):
        for point in (P, list(P)):
            self.assertEqual(integers_of(point), (6, (3, -4, 0)))
        self.assertEqual(integers_of(((1, 4), (1, 6))), (12, (3, 2)))

    def test_integers_stay(self):
        self.assertEqual(integers_of(((4, 1), (-6, 1))), (1, (4, -6)))
        self.assertEqual(integers_of(((0, 1),)), (1, (0,)))

    def test_without_coordinates(self):
        self.assertEqual(integers_of(()), (1, ()))

    def test_kinds(self):
        made = integers_of([(1, 2)])
        self.assertIs(type(made), tuple)
        self.assertIs(type(made[1]), tuple)

    def test_many_digits(self):
        self.assertEqual(integers_of(((1, LONG), (1, 2))), (2 * LONG, (2, LONG)))


class Results(unittest.TestCase):
    def test_points_are_tuples_of_fractions(self):
        for point in (point_of([2, 4], 6), sum_of(list(P), list(Q)), scaled(list(P), (6, 1)),
                      image([[2, 3, 6]], list(P)), mixed(((1, 2), (1, 2)), [P, Q])):
            self.assertTrue(is_point(point, len(point)))

    def test_what_is_passed_stays_as_it_was(self):
        calls = (
            (is_point, [[(1, 2), (2, 4)], 2]), (check_points, [[P, Q], 3]), (point_of, [[2, 4], -2]),
            (sum_of, [list(P), list(Q)]), (scaled, [list(P), (2, 3)]), (dot, [[1, 2, 3], list(P)]),
            (image, [[[1, 2, 3], [4, 5, 6]], list(P)]), (check_weights, [((1, 2), (1, 2)), 2]),
            (mixed, [((1, 2), (1, 2)), [P, Q]]), (integers_of, [list(P)]))
        for function, arguments in calls:
            with self.subTest(function.__name__):
                before = copy.deepcopy(arguments)
                function(*arguments)
                self.assertEqual(arguments, before)

    def test_what_is_passed_stays_as_it_was_if_it_is_refused(self):
        items = [P, [(1, 2), [3]], None]
        with self.assertRaises(BadPoint):
            check_points(items, 3)
        self.assertEqual(items, [P, [(1, 2), [3]], None])
        weights = [[1, 2], (1, 2)]
        with self.assertRaises(BadWeights):
            check_weights(weights, 2)
        self.assertEqual(weights, [[1, 2], (1, 2)])


if __name__ == "__main__":
    unittest.main()
