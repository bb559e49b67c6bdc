"""Tests of stayswithin/hulls.py (points 4.6 to 4.8)."""

import copy
import itertools
import random
import unittest
from fractions import Fraction

from stayswithin import hulls
from stayswithin.hulls import hull_outside, judge_parted, needed, parted, same_hull, weights_of
from tests.odd import LONG
from tests.papers import are_weights, mix_of, numbers_of, parts, point

NAMES = ("weights_of", "parted", "judge_parted", "needed", "hull_outside", "same_hull")
SQUARE = [point(0, 0), point(0, 1), point(1, 0), point(1, 1)]
TRIANGLE = [point("1/2", 0), point(0, "2/3"), point("-5/7", -1)]
SMALL = Fraction(1, LONG)


def random_points(rng, size, many, most, divisors):
    return [point(*(Fraction(rng.randint(-most, most), rng.choice(divisors)) for _ in range(size)))
            for _ in range(many)]


def area(first, second, third):
    """Twice the area of a triangle, below 0 if its points turn to the right."""
    (a, b), (c, d), (e, f) = (numbers_of(each, 2) for each in (first, second, third))
    return (c - a) * (f - b) - (d - b) * (e - a)


def in_some_triangle(points, value):
    """Whether a point of the plane is in the hull of the points: if so, it is in that of some three of them."""
    def on(first, second):
        (a, b), (c, d), (e, f) = (numbers_of(each, 2) for each in (first, second, value))
        return area(first, second, value) == 0 and min(a, c) <= e <= max(a, c) and min(b, d) <= f <= max(b, d)

    def inside(*corners):
        signs = [area(corners[at - 1], corners[at], value) for at in range(3)]
        return area(*corners) != 0 and (min(signs) >= 0 or max(signs) <= 0)

    return (value in points or any(on(*pair) for pair in itertools.combinations(points, 2))
            or any(inside(*corners) for corners in itertools.combinations(points, 3)))


class Asks(unittest.TestCase):
    def is_in(self, points, value):
        """Whether the point is in the hull, as weights_of and parted tell it; what they tell is judged by sums."""
        weights = weights_of(points, value)
        row = parted(points, value)
        self.assertEqual(weights is None, row is not None, (points, value))
        self.assertEqual(weights_of(tuple(points), value) is None, weights is None)
        self.assertEqual(parted(tuple(points), value) is None, row is None)
        if weights is None:
            self.assertTrue(parts(points, value, row), (points, value, row))
            self.assertIs(judge_parted(points, value, row), True)
            return False
        self.assertTrue(are_weights(weights, len(points)), weights)
        self.assertEqual(mix_of(weights, points), numbers_of(value, len(value)))
        return True


class Interface(unittest.TestCase):
    def test_each_function_is_defined_in_the_file(self):
        for name in NAMES:
            self.assertEqual(getattr(hulls, name).__module__, "stayswithin.hulls")

    def test_arguments_by_name(self):
        self.assertEqual(weights_of(point=point("1/4"), points=[point(0), point(1)]), point("3/4", "1/4"))
        self.assertIsNone(parted(point=point("1/4"), points=[point(0), point(1)]))
        self.assertIs(judge_parted(row=((1,), 1), point=point(2), points=[point(0), point(1)]), True)
        self.assertEqual(needed(points=SQUARE), (0, 1, 2, 3))
        self.assertEqual(hull_outside(rows=[((1, 0), 0)], points=SQUARE), (0, 2))
        self.assertIs(same_hull(others=SQUARE, points=SQUARE), True)


class WeightsOfAndParted(Asks):
    def test_a_point_of_the_list(self):
        for points in (SQUARE, TRIANGLE, [point(3)], [point(1, 2, "3/4")], [point(3), point(3), point(4)]):
            for value in points:
                self.assertIs(self.is_in(points, value), True)
        self.assertEqual(weights_of(TRIANGLE, TRIANGLE[1]), point(0, 1, 0))

    def test_a_mix(self):
        self.assertEqual(weights_of([point(-1), point(2)], point("1/2")), point("1/2", "1/2"))
        self.assertEqual(weights_of([point(0, 0), point(3, 0), point(0, 2)], point(1, 1)), point("1/6", "1/3", "1/2"))
        for value in (point("1/2", "1/2"), point("1/3", "2/7"), point(1, "1/5"), point(0, SMALL), point(1, 1 - SMALL)):
            self.assertIs(self.is_in(SQUARE, value), True)

    def test_a_point_outside_by_a_little(self):
        for value in (point(1 + SMALL, "1/2"), point("1/2", -SMALL), point(-SMALL, 0), point(1, 1 + SMALL),
                      point(1 + SMALL, 1 + SMALL)):
            self.assertIs(self.is_in(SQUARE, value), False)
        self.assertIs(self.is_in([point(0, 0), point(1, 0), point(0, 1)], point("1/2", "1/2")), True)
        self.assertIs(self.is_in([point(0, 0), point(1, 0), point(0, 1)], point("1/2", SMALL + Fraction(1, 2))), False)

    def test_a_point_far_outside(self):
        for value in (point(LONG, 0), point(-LONG, "1/3"), point(0, LONG), point(5, 5)):
            self.assertIs(self.is_in(SQUARE, value), False)

    def test_flat_hulls(self):
        line = [point(0, 0), point(2, 4)]
        self.assertEqual(weights_of(line, point("1/2", 1)), point("3/4", "1/4"))
        for value in (point("1/2", 1 + SMALL), point(3, 6), point(-SMALL, -2 * SMALL), point(0, 1)):
            self.assertIs(self.is_in(line, value), False)

    def test_a_single_point(self):
        self.assertEqual(weights_of([point(1, "2/3")], point(1, "2/3")), point(1))
        for value in (point(1, Fraction(2, 3) + SMALL), point(1 - SMALL, "2/3")):
            self.assertIs(self.is_in([point(1, "2/3")], value), False)

    def test_the_row_consists_of_integers_if_the_points_are_fractions(self):
        points = [point("1/3", "1/5"), point("2/7", "-1/11"), point("5/13", "1/2")]
        for value in (point("1/3", "1/2"), point(0, 0), point("1/3", Fraction(1, 5) + SMALL)):
            self.is_in(points, value)
        self.assertIs(self.is_in(points, point(0, 0)), False)

    def test_exactly_one_of_the_two_tells_something(self):
        rng = random.Random(61)
        told = []
        for _ in range(300):
            size = rng.randint(1, 3)
            points = random_points(rng, size, rng.randint(1, 7), 6, (1, 2, 3))
            told.append(self.is_in(points, random_points(rng, size, 1, 4, (1, 2, 3, 5))[0]))
        self.assertGreater(told.count(True), 40)
        self.assertGreater(told.count(False), 40)

    def test_in_the_plane_against_triangles(self):
        rng = random.Random(62)
        for _ in range(150):
            points = random_points(rng, 2, rng.randint(1, 6), 3, (1, 1, 2))
            value = random_points(rng, 2, 1, 2, (1, 2))[0]
            self.assertIs(self.is_in(points, value), in_some_triangle(points, value))


class JudgeParted(unittest.TestCase):
    def test_right_rows(self):
        for row in (((1, 0), 1), ((2, 0), 2), ((1, 1), 2), ((3, 0), 4), ((5, 1), 7)):
            self.assertIs(judge_parted(SQUARE, point(2, "1/2"), row), True)
            self.assertIs(judge_parted(tuple(SQUARE), point(2, "1/2"), row), True)

    def test_a_row_that_the_point_just_meets(self):
        self.assertIs(judge_parted(SQUARE, point(2, 0), ((1, 0), 2)), False)
        self.assertIs(judge_parted(SQUARE, point(2 + SMALL, 0), ((1, 0), 2)), True)
        self.assertIs(judge_parted(SQUARE, point("3/2", 0), ((2, 0), 3)), False)
        self.assertIs(judge_parted(SQUARE, point("3/2", 0), ((2, 0), 2)), True)

    def test_a_row_that_one_of_the_points_just_meets_or_misses(self):
        for at in range(4):
            points = SQUARE[at:] + SQUARE[:at]
            self.assertIs(judge_parted(points, point(2, 0), ((1, 0), 1)), True)
            self.assertIs(judge_parted(points, point(2, 0), ((1, 0), 0)), False)
            self.assertIs(judge_parted([*points, point(1 + SMALL, 0)], point(2, 0), ((1, 0), 1)), False)
            self.assertIs(judge_parted([point(1 + SMALL, 0), *points], point(2, 0), ((1, 0), 1)), False)

    def test_a_point_of_the_hull(self):
        for row in (((1, 0), 1), ((1, 0), 0), ((0, 0), 0), ((0, 0), -1), ((-1, -1), -1)):
            self.assertIs(judge_parted(SQUARE, point("1/2", "1/2"), row), False)

    def test_a_row_of_zeros(self):
        for bound in (-1, 0, 1):
            self.assertIs(judge_parted(SQUARE, point(2, 0), ((0, 0), bound)), False)

    def test_a_row_with_another_number_of_integers(self):
        self.assertIs(judge_parted([point(0), point(1)], point(2), ((1,), 1)), True)
        for numbers in ((), (1, 0), (1, 1), (1, 0, 0)):
            self.assertIs(judge_parted([point(0), point(1)], point(2), (numbers, 1)), False)

    def test_integers_of_any_size(self):
        self.assertIs(judge_parted([point(1)], point(1 + SMALL), ((LONG,), LONG)), True)
        self.assertIs(judge_parted([point(1)], point(1 + SMALL), ((LONG,), LONG + 1)), False)


class Needed(Asks):
    def check(self, points, wanted):
        self.assertEqual(needed(points), wanted)
        self.assertEqual(needed(tuple(points)), wanted)

    def test_all_are_needed(self):
        self.check(SQUARE, (0, 1, 2, 3))
        self.check(TRIANGLE, (0, 1, 2))
        self.check([point(5)], (0,))

    def test_points_between_others(self):
        self.check([point(0), point("1/2"), point(1)], (0, 2))
        self.check([point("1/2", "1/2"), *SQUARE], (1, 2, 3, 4))
        self.check([*SQUARE, point("1/2", 0), point(0, "1/3")], (0, 1, 2, 3))
        self.check([*SQUARE, point("1/2", -SMALL)], (0, 1, 2, 3, 4))
        self.check([point(0, 0), point(1, 2), point("1/2", 1), point(3, 6)], (0, 3))

    def test_a_point_twice(self):
        self.check(SQUARE + SQUARE, (0, 1, 2, 3))
        self.check([point(0), point(0), point(1), point(1)], (0, 2))
        self.check([point(1), point(0), point(1), point(0)], (0, 1))

    def test_all_points_alike(self):
        for many in range(1, 5):
            self.check([point("2/3", -1)] * many, (0,))

    def test_any_points(self):
        rng = random.Random(63)
        for _ in range(60):
            size = rng.randint(1, 3)
            points = random_points(rng, size, rng.randint(1, 8), 2, (1, 1, 2))
            there = list(range(len(points)))
            for index in reversed(range(len(points))):
                others = [points[at] for at in there if at != index]
                if others and self.is_in(others, points[index]):
                    there.remove(index)
            self.check(points, tuple(there))
            self.assertIs(same_hull(points, [points[at] for at in there]), True)


class HullOutside(unittest.TestCase):
    def check(self, points, rows, wanted):
        for kind, other in itertools.product((list, tuple), repeat=2):
            self.assertEqual(hull_outside(kind(points), other(rows)), wanted)

    def test_none(self):
        self.check(SQUARE, [((1, 0), 1), ((0, 1), 1), ((-1, 0), 0), ((1, 1), 2)], None)
        self.check(SQUARE, [], None)
        self.check([point("1/2")], [((2,), 1), ((-2,), -1)], None)

    def test_the_first_row_and_for_it_the_first_point(self):
        self.check(SQUARE, [((1, 0), 1), ((1, 1), 1), ((0, 1), 0)], (1, 3))
        self.check(SQUARE, [((1, 0), 0), ((0, 1), 0), ((-1, -1), -1)], (0, 2))
        self.check(SQUARE, [((0, 1), 0), ((1, 0), 0), ((-1, -1), -1)], (0, 1))
        self.check(SQUARE, [((-1, -1), 0), ((-1, -1), -1), ((1, 1), 0)], (1, 0))
        self.check(SQUARE[::-1], [((-1, -1), 0), ((-1, -1), -1), ((1, 1), 0)], (1, 3))

    def test_missed_by_a_little(self):
        self.check([point(1), point(1 + SMALL)], [((1,), 1)], (0, 1))
        self.check([point(1), point(1 - SMALL)], [((1,), 1)], None)

    def test_a_row_of_zeros(self):
        self.check(SQUARE, [((0, 0), 0), ((0, 0), -1)], (1, 0))


class SameHull(unittest.TestCase):
    def check(self, points, others, wanted):
        for first, second in ((points, others), (others, points), (tuple(points), others), (points, tuple(others))):
            self.assertIs(same_hull(first, second), wanted)

    def test_in_another_order(self):
        for others in itertools.permutations(SQUARE):
            self.check(SQUARE, list(others), True)

    def test_twice_and_with_mixes_put_in(self):
        self.check(SQUARE, SQUARE + SQUARE[::-1], True)
        self.check(SQUARE, [point("1/2", "1/2"), *SQUARE, point("1/3", 0), point(1, SMALL)], True)
        self.check(TRIANGLE, [*TRIANGLE, point("1/4", "1/3")], True)
        self.check([point(3)], [point(3), point(3)], True)

    def test_a_point_more_or_fewer(self):
        self.check(SQUARE, [*SQUARE, point(1 + SMALL, "1/2")], False)
        self.check(SQUARE, [*SQUARE, point(1 + SMALL, 1)], False)
        for at in range(4):
            self.check(SQUARE, SQUARE[:at] + SQUARE[at + 1:], False)
        self.check([point(3)], [point(3), point(3 + SMALL)], False)

    def test_others(self):
        self.check([point(0), point(1)], [point(0), point(2)], False)
        self.check([point(0), point(1)], [point(2), point(3)], False)
        self.check([point(0, 0), point(1, 1)], [point(0, 1), point(1, 0)], False)


class Arguments(unittest.TestCase):
    def test_what_is_passed_stays_as_it_was(self):
        calls = (
            (weights_of, [list(SQUARE), point("1/2", 0)]), (weights_of, [list(SQUARE), point(2, 0)]),
            (parted, [list(SQUARE), point("1/2", 0)]), (parted, [list(SQUARE), point(2, 0)]),
            (judge_parted, [list(SQUARE), point(2, 0), ((1, 0), 1)]), (needed, [[*SQUARE, *SQUARE]]),
            (hull_outside, [list(SQUARE), [((1, 0), 0), ((0, 1), 0)]]), (same_hull, [list(SQUARE), list(SQUARE)]))
        for function, arguments in calls:
            with self.subTest(function.__name__):
                before = copy.deepcopy(arguments)
                function(*arguments)
                self.assertEqual(arguments, before)


if __name__ == "__main__":
    unittest.main()
