"""Tests of stayswithin/programs.py (points 2.1 to 2.4 and 2.6)."""

import copy
import random
import unittest
from fractions import Fraction

from stayswithin import programs
from stayswithin.programs import (
    combined, is_best, is_endless, is_none, is_solution, is_unsolvable, is_within, whole_row)
from stayswithin.simplex import best, solved
from tests.odd import LONG, NO_FRACTIONS, bent, moved
from tests.papers import proves_best, proves_endless, proves_none, proves_solution, proves_unsolvable

# 3 x + 4 y is at most 11, and is it at (1, 2).
ROWS = [((2, 1), 4), ((1, 3), 7), ((-1, 0), 9)]
GOAL = (3, 4)
POINT = ((1, 1), (2, 1))
SHARES = ((1, 1), (1, 1), (0, 1))
# x is at most -1, y is at most -1, and their sum is at least 0.
EMPTY = [((1, 0), -1), ((0, 1), -1), ((-1, -1), 0)]
# x is at least y, and y at most 3.
OPEN = [((-1, 1), 0), ((0, 1), 3)]
# x + y is 3, x - y is 1.
EQUATIONS = [((1, 1), 3), ((1, -1), 1)]
# 2 x + 3 y is 6, x + y is 4.
UNSOLVABLE = [((2, 3), 6), ((1, 1), 4)]


class Interface(unittest.TestCase):
    def test_each_function_is_defined_in_the_file(self):
        for name in ("is_best", "is_none", "is_endless", "is_solution", "is_unsolvable", "is_within", "combined",
                     "whole_row"):
            self.assertEqual(getattr(programs, name).__module__, "stayswithin.programs")

    def test_arguments_by_name(self):
        self.assertIs(is_best(multipliers=SHARES, point=POINT, value=(11, 1), goal=GOAL, rows=ROWS), True)
        self.assertIs(is_none(multipliers=((1, 1),) * 3, size=2, rows=EMPTY), True)
        self.assertIs(is_endless(ray=((1, 1), (0, 1)), point=((0, 1), (0, 1)), goal=(1, 0), rows=OPEN), True)
        self.assertIs(is_solution(point=((2, 1), (1, 1)), size=2, equations=EQUATIONS), True)
        self.assertIs(is_unsolvable(multipliers=((1, 1), (-2, 1)), size=2, equations=UNSOLVABLE), True)
        self.assertIs(is_within(point=POINT, rows=ROWS), True)
        self.assertEqual(combined(multipliers=((1, 2),), size=1, rows=[((3,), 5)]), (((3, 2),), (5, 2)))
        self.assertEqual(whole_row(bound=(1, 2), point=((1, 3),)), ((2,), 3))

    def test_the_examples(self):
        self.assertIs(is_unsolvable([((2, 3), 6), ((1, 1), 4)], 2, ((1, 1), (-2, 1))), True)
        self.assertEqual(whole_row(((1, 2), (-2, 3)), (5, 1)), ((3, -4), 30))


class IsBest(unittest.TestCase):
    def test_right_papers(self):
        self.assertIs(is_best(ROWS, GOAL, (11, 1), POINT, SHARES), True)
        self.assertIs(is_best(tuple(ROWS), GOAL, (11, 1), POINT, SHARES), True)
        self.assertIs(is_best([((3,), 2)], (2,), (4, 3), ((2, 3),), ((2, 3),)), True)
        self.assertIs(is_best([((3,), 2), ((6,), 4)], (2,), (4, 3), ((2, 3),), ((0, 1), (1, 3))), True)
        self.assertIs(is_best([((1, 1), 3), ((-1, 0), 0)], (1, 1), (3, 1), ((0, 1), (3, 1)), ((1, 1), (0, 1))), True)
        self.assertIs(is_best([((1, 1), 3), ((-1, 0), 0)], (1, 1), (3, 1), ((5, 1), (-2, 1)), ((1, 1), (0, 1))), True)

    def test_no_rows_and_no_variables(self):
        self.assertIs(is_best([], (), (0, 1), (), ()), True)
        self.assertIs(is_best([], (0,), (0, 1), ((7, 2),), ()), True)
        self.assertIs(is_best([((), 0)], (), (0, 1), (), ((5, 1),)), True)
        self.assertIs(is_best([((), 1)], (), (0, 1), (), ((5, 1),)), False)
        self.assertIs(is_best([((), -1)], (), (0, 1), (), ((0, 1),)), False)
        self.assertIs(is_best([], (), (1, 1), (), ()), False)
        self.assertIs(is_best([], (), (0, 1), ((0, 1),), ()), False)
        self.assertIs(is_best([], (), (0, 1), (), ((0, 1),)), False)
        self.assertIs(is_best([], (1,), (0, 1), ((0, 1),), ()), False)

    def test_a_value_that_is_bent(self):
        for value in (*NO_FRACTIONS, (11, True), (10, 1), (12, 1), (-11, 1), (11 * LONG + 1, LONG), (11, 2), [11, 1], (22, 2),
                      ((11, 1),)):
            with self.subTest(repr(value)[:40]):
                self.assertIs(is_best(ROWS, GOAL, value, POINT, SHARES), False)

    def test_true_and_false_are_no_integers_of_a_value(self):
        for bound, odd in ((1, (True, 1)), (1, (1, True)), (1, (True, True)), (0, (False, 1)), (0, (0, True))):
            self.assertIs(is_best([((1,), bound)], (1,), (bound, 1), ((bound, 1),), ((1, 1),)), True)
            self.assertIs(is_best([((1,), bound)], (1,), odd, ((bound, 1),), ((1, 1),)), False)

    def test_a_point_that_is_bent(self):
        for point in (*bent(POINT), *moved(POINT)):
            with self.subTest(repr(point)[:40]):
                self.assertIs(is_best(ROWS, GOAL, (11, 1), point, SHARES), False)

    def test_multipliers_that_are_bent(self):
        for shares in (*bent(SHARES), *moved(SHARES)):
            with self.subTest(repr(shares)[:40]):
                self.assertIs(is_best(ROWS, GOAL, (11, 1), POINT, shares), False)

    def test_a_point_with_the_value_beyond_a_row(self):
        self.assertIs(is_best(ROWS, GOAL, (11, 1), ((5, 1), (-1, 1)), SHARES), False)

    def test_another_value_of_a_point_within_the_rows(self):
        self.assertIs(is_best(ROWS, GOAL, (0, 1), ((0, 1), (0, 1)), SHARES), False)
        self.assertIs(is_best(ROWS, GOAL, (11, 1), ((0, 1), (0, 1)), SHARES), False)
        self.assertIs(is_best([((1,), 3)], (1,), (2, 1), ((2, 1),), ((1, 1),)), False)

    def test_multipliers_below_zero(self):
        # Without the signs the sums would be right.
        rows = [((1,), 1), ((-1,), -1), ((0,), 0)]
        self.assertIs(is_best(rows, (1,), (1, 1), ((1, 1),), ((1, 1), (0, 1), (0, 1))), True)
        self.assertIs(is_best(rows, (1,), (1, 1), ((1, 1),), ((2, 1), (1, 1), (0, 1))), True)
        self.assertIs(is_best(rows, (1,), (1, 1), ((1, 1),), ((0, 1), (-1, 1), (0, 1))), False)
        self.assertIs(is_best(rows, (1,), (1, 1), ((1, 1),), ((1, 1), (0, 1), (-1, 2))), False)
        self.assertIs(is_best(rows, (1,), (1, 1), ((1, 1),), ((1, 1), (0, 1), (1, 2))), True)

    def test_multipliers_with_another_sum(self):
        rows = [((1, 0), 0), ((0, 1), 0), ((1, 1), 0)]
        self.assertIs(is_best(rows, (1, 1), (0, 1), ((0, 1), (0, 1)), ((1, 1), (1, 1), (0, 1))), True)
        self.assertIs(is_best(rows, (1, 1), (0, 1), ((0, 1), (0, 1)), ((0, 1), (0, 1), (1, 1))), True)
        self.assertIs(is_best(rows, (1, 1), (0, 1), ((0, 1), (0, 1)), ((1, 1), (0, 1), (0, 1))), False)
        self.assertIs(is_best(rows, (1, 1), (0, 1), ((0, 1), (0, 1)), ((0, 1), (1, 1), (0, 1))), False)


class IsNone(unittest.TestCase):
    def test_right_papers(self):
        self.assertIs(is_none(EMPTY, 2, ((1, 1),) * 3), True)
        self.assertIs(is_none(tuple(EMPTY), 2, ((2, 3),) * 3), True)
        self.assertIs(is_none([((2,), 1), ((-3,), -2)], 1, ((3, 1), (2, 1))), True)
        self.assertIs(is_none([((0, 0), -1), ((1, 1), 5)], 2, ((1, LONG), (0, 1))), True)

    def test_no_rows_and_no_variables(self):
        self.assertIs(is_none([], 0, ()), False)
        self.assertIs(is_none([], 2, ()), False)
        self.assertIs(is_none([((), -1)], 0, ((1, 2),)), True)
        self.assertIs(is_none([((), -1)], 0, ((0, 1),)), False)
        self.assertIs(is_none([((), 0)], 0, ((1, 1),)), False)
        self.assertIs(is_none([((), 1)], 0, ((1, 1),)), False)

    def test_papers_that_are_bent(self):
        for shares in (*bent(((1, 1),) * 3), *moved(((1, 1),) * 3)):
            with self.subTest(repr(shares)[:40]):
                self.assertIs(is_none(EMPTY, 2, shares), False)

    def test_a_bound_that_is_not_below_zero(self):
        rows = [((1,), 0), ((-1,), 0), ((-2,), -1)]
        self.assertIs(is_none(rows, 1, ((1, 1), (1, 1), (0, 1))), False)
        self.assertIs(is_none(rows, 1, ((0, 1),) * 3), False)
        self.assertIs(is_none(rows, 1, ((2, 1), (0, 1), (1, 1))), True)
        self.assertIs(is_none([((1,), 1), ((-1,), 0)], 1, ((1, 1), (1, 1))), False)

    def test_multipliers_below_zero(self):
        self.assertIs(is_none([((0, 0), 1)], 2, ((-1, 1),)), False)
        self.assertIs(is_none([((0, 0), -1), ((0, 0), 0)], 2, ((1, 1), (-1, 3))), False)
        self.assertIs(is_none([((0, 0), -1), ((0, 0), 0)], 2, ((1, 1), (1, 3))), True)
        self.assertIs(is_none([((1,), 1), ((1,), 0)], 1, ((-1, 1), (1, 1))), False)

    def test_sums_that_are_not_zero(self):
        self.assertIs(is_none([((1, 0), -1)], 2, ((1, 1),)), False)
        self.assertIs(is_none([((0, 1), -1)], 2, ((1, 1),)), False)
        self.assertIs(is_none([((0, -1), -1)], 2, ((1, 1),)), False)
        self.assertIs(is_none([((1, 0), -1), ((-1, 1), -1)], 2, ((1, 1), (1, 1))), False)


class IsEndless(unittest.TestCase):
    def test_right_papers(self):
        self.assertIs(is_endless(OPEN, (1, 0), ((0, 1), (0, 1)), ((1, 1), (0, 1))), True)
        self.assertIs(is_endless(tuple(OPEN), (1, 0), ((3, 1), (3, 1)), ((1, 3), (-5, 1))), True)
        self.assertIs(is_endless(OPEN, (0, -1), ((0, 1), (-7, 2)), ((0, 1), (-1, LONG))), True)
        self.assertIs(is_endless(OPEN, (3, -1), ((0, 1), (0, 1)), ((-1, 2), (-2, 1))), True)

    def test_no_rows_and_no_variables(self):
        self.assertIs(is_endless([], (2,), ((5, 1),), ((1, 1),)), True)
        self.assertIs(is_endless([], (2,), ((5, 1),), ((0, 1),)), False)
        self.assertIs(is_endless([], (2,), ((5, 1),), ((-1, 1),)), False)
        self.assertIs(is_endless([], (), (), ()), False)
        self.assertIs(is_endless([], (0,), ((0, 1),), ((1, 1),)), False)

    def test_papers_that_are_bent(self):
        point, ray = ((0, 1), (0, 1)), ((1, 1), (1, LONG))
        rows = [((-1, 0), 0), ((0, -1), 0), ((1, -LONG), 0)]
        self.assertIs(is_endless(rows, (1, 0), point, ray), True)
        for other in bent(point):
            with self.subTest(point=repr(other)[:40]):
                self.assertIs(is_endless(rows, (1, 0), other, ray), False)
        for other in bent(ray):
            with self.subTest(ray=repr(other)[:40]):
                self.assertIs(is_endless(rows, (1, 0), point, other), False)

    def test_a_point_beyond_a_row(self):
        ray = ((1, 1), (0, 1))
        self.assertIs(is_endless(OPEN, (1, 0), ((3, 1), (3, 1)), ray), True)
        self.assertIs(is_endless(OPEN, (1, 0), ((2, 1), (3, 1)), ray), False)
        self.assertIs(is_endless(OPEN, (1, 0), ((4, 1), (3 * LONG + 1, LONG)), ray), False)

    def test_a_ray_that_leaves_the_rows_or_does_not_raise_the_goal(self):
        point = ((0, 1), (0, 1))
        self.assertIs(is_endless(OPEN, (1, 1), point, ((1, 1), (1, 1))), False)
        self.assertIs(is_endless(OPEN, (1, 1), point, ((1, 1), (1, LONG))), False)
        self.assertIs(is_endless(OPEN, (-1, 0), point, ((-1, 1), (0, 1))), False)
        self.assertIs(is_endless(OPEN, (1, 1), point, ((1, 1), (-1, 1))), False)
        self.assertIs(is_endless(OPEN, (1, 1), point, ((1, 1), (-2, 1))), False)
        self.assertIs(is_endless(OPEN, (0, 0), point, ((1, 1), (0, 1))), False)


class IsSolution(unittest.TestCase):
    def test_right_papers(self):
        self.assertIs(is_solution(EQUATIONS, 2, ((2, 1), (1, 1))), True)
        self.assertIs(is_solution(tuple(EQUATIONS), 2, ((2, 1), (1, 1))), True)
        self.assertIs(is_solution([((3, 1), 2), ((-3, 1), 2)], 2, ((0, 1), (2, 1))), True)
        self.assertIs(is_solution([((3, 0), 2)], 2, ((2, 3), (0, 1))), True)
        self.assertIs(is_solution([((3, 0), 2)], 2, ((2, 3), (LONG, 7))), True)

    def test_no_equations_and_no_variables(self):
        self.assertIs(is_solution([], 0, ()), True)
        self.assertIs(is_solution([], 1, ((3, 2),)), True)
        self.assertIs(is_solution([], 1, ()), False)
        self.assertIs(is_solution([], 0, ((0, 1),)), False)
        self.assertIs(is_solution([((), 0)], 0, ()), True)
        for bound in (1, -1):
            self.assertIs(is_solution([((), bound)], 0, ()), False)

    def test_papers_that_are_bent(self):
        for point in (*bent(((2, 1), (1, 1))), *moved(((2, 1), (1, 1)))):
            with self.subTest(repr(point)[:40]):
                self.assertIs(is_solution(EQUATIONS, 2, point), False)

    def test_coordinates_below_zero(self):
        self.assertIs(is_solution([((1, 1), 3)], 2, ((0, 1), (3, 1))), True)
        self.assertIs(is_solution([((1, 1), 3)], 2, ((-1, 1), (4, 1))), False)
        self.assertIs(is_solution([((1, 1), 3)], 2, ((3 * LONG + 1, LONG), (-1, LONG))), False)
        self.assertIs(is_solution([], 1, ((-1, 2),)), False)
        self.assertIs(is_solution([((0, 0), 0)], 2, ((0, 1), (-1, 1))), False)

    def test_a_sum_above_or_below_the_bound(self):
        for point in (((2, 1), (0, 1)), ((4, 1), (0, 1))):
            self.assertIs(is_solution([((1, 1), 3)], 2, point), False)


class IsUnsolvable(unittest.TestCase):
    def test_right_papers(self):
        self.assertIs(is_unsolvable(UNSOLVABLE, 2, ((1, 1), (-2, 1))), True)
        self.assertIs(is_unsolvable(tuple(UNSOLVABLE), 2, ((3, 2), (-3, 1))), True)
        self.assertIs(is_unsolvable(UNSOLVABLE, 2, ((1, 3), (-2, 3))), True)
        self.assertIs(is_unsolvable([((1, 2), -1)], 2, ((1, LONG),)), True)
        self.assertIs(is_unsolvable([((-1, -2), 1)], 2, ((-1, 1),)), True)

    def test_no_equations_and_no_variables(self):
        self.assertIs(is_unsolvable([], 0, ()), False)
        self.assertIs(is_unsolvable([], 2, ()), False)
        self.assertIs(is_unsolvable([((), 1)], 0, ((-1, 1),)), True)
        self.assertIs(is_unsolvable([((), -1)], 0, ((1, 2),)), True)
        self.assertIs(is_unsolvable([((), -1)], 0, ((-1, 2),)), False)
        self.assertIs(is_unsolvable([((), 0)], 0, ((1, 2),)), False)

    def test_papers_that_are_bent(self):
        shares = ((1, 1), (-2, 1))
        for other in bent(shares):
            with self.subTest(repr(other)[:40]):
                self.assertIs(is_unsolvable(UNSOLVABLE, 2, other), False)
        for other in (((0, 1), (-2, 1)), ((-1, 1), (-2, 1)), ((1, 1), (-1, 1)), ((1, 1), (-3, 1)), ((1, 1), (2, 1)),
                      ((0, 1), (0, 1)), ((1, 1), (-2 * LONG - 1, LONG)), ((LONG - 1, LONG), (-2, 1))):
            with self.subTest(repr(other)[:40]):
                self.assertIs(is_unsolvable(UNSOLVABLE, 2, other), False)

    def test_sums_below_zero(self):
        self.assertIs(is_unsolvable([((-1, 0), -1)], 2, ((1, 1),)), False)
        self.assertIs(is_unsolvable([((1, -1), -1)], 2, ((1, 1),)), False)
        self.assertIs(is_unsolvable([((0, 0), -1)], 2, ((1, 1),)), True)

    def test_a_bound_that_is_not_below_zero(self):
        self.assertIs(is_unsolvable([((1, 1), 0)], 2, ((1, 1),)), False)
        self.assertIs(is_unsolvable([((1, 1), 1)], 2, ((1, 1),)), False)


class JudgesAgree(unittest.TestCase):
    """The judges against sums that are worked out by the tests, for papers that are near to right ones."""

    def rows(self, rng, size):
        return [(tuple(rng.randint(-2, 2) for _ in range(size)), rng.randint(-2, 2)) for _ in range(rng.randint(0, 4))]

    def fractions(self, rng, values):
        made = []
        for value in values:
            part = Fraction(*value) + rng.choice((0, 0, 0, 0, 0, 1, -1, Fraction(1, 7)))
            made.append((part.numerator, part.denominator))
        return tuple(made)

    def test_three_answers(self):
        rng = random.Random(31)
        told = {True: 0, False: 0}
        for _ in range(900):
            size = rng.randint(0, 3)
            rows = self.rows(rng, size)
            goal = tuple(rng.randint(-2, 2) for _ in range(size))
            answer = best(rows, goal)
            if answer[0] == "best":
                value, point, shares = answer[1], self.fractions(rng, answer[2]), self.fractions(rng, answer[3])
                told_here = is_best(rows, goal, value, point, shares)
                self.assertIs(told_here, proves_best(rows, goal, value, point, shares))
            elif answer[0] == "none":
                shares = self.fractions(rng, answer[1])
                told_here = is_none(rows, size, shares)
                self.assertIs(told_here, proves_none(rows, size, shares))
            else:
                point, ray = self.fractions(rng, answer[1]), self.fractions(rng, answer[2])
                told_here = is_endless(rows, goal, point, ray)
                self.assertIs(told_here, proves_endless(rows, goal, point, ray))
            told[told_here] += 1
        self.assertGreater(min(told.values()), 100)

    def test_equations(self):
        rng = random.Random(32)
        told = {True: 0, False: 0}
        for _ in range(900):
            size = rng.randint(0, 3)
            rows = self.rows(rng, size)
            word, paper = solved(rows, size)
            paper = self.fractions(rng, paper)
            if word == "point":
                told_here = is_solution(rows, size, paper)
                self.assertIs(told_here, proves_solution(rows, size, paper))
            else:
                told_here = is_unsolvable(rows, size, paper)
                self.assertIs(told_here, proves_unsolvable(rows, size, paper))
            told[told_here] += 1
        self.assertGreater(min(told.values()), 100)


class IsWithin(unittest.TestCase):
    def test_at_a_side_and_a_little_beyond_it(self):
        rows = [((2, -3), 1), ((-1, 0), 0)]
        self.assertIs(is_within(rows, ((1, 2), (0, 1))), True)
        self.assertIs(is_within(rows, ((LONG + 1, 2 * LONG), (0, 1))), False)
        self.assertIs(is_within(rows, ((1, 2), (-1, LONG))), False)
        self.assertIs(is_within(rows, ((0, 1), (5, 1))), True)
        self.assertIs(is_within(rows, ((-1, LONG), (5, 1))), False)
        self.assertIs(is_within(tuple(rows), ((-1, 3), (-1, 1))), False)

    def test_each_row_is_asked(self):
        rows = [((1, 0), 1), ((0, 1), 1), ((-1, -1), 0)]
        self.assertIs(is_within(rows, ((1, 1), (1, 1))), True)
        for point in (((2, 1), (1, 1)), ((1, 1), (2, 1)), ((-1, 1), (0, 1))):
            self.assertIs(is_within(rows, point), False)

    def test_no_rows_and_no_variables(self):
        self.assertIs(is_within([], ()), True)
        self.assertIs(is_within((), ((1, 2),)), True)
        self.assertIs(is_within([((), 0)], ()), True)
        self.assertIs(is_within([((), 0), ((), -1)], ()), False)

    def test_a_row_of_zeros(self):
        for bound, wanted in ((0, True), (1, True), (-1, False)):
            self.assertIs(is_within([((0, 0), bound)], ((1, 2), (5, 1))), wanted)

    def test_integers_of_any_size(self):
        self.assertIs(is_within([((LONG,), LONG)], ((1, 1),)), True)
        self.assertIs(is_within([((LONG,), LONG - 1)], ((1, 1),)), False)


class Combined(unittest.TestCase):
    def test_of_no_rows(self):
        self.assertEqual(combined([], 0, ()), ((), (0, 1)))
        self.assertEqual(combined((), 2, ()), (((0, 1), (0, 1)), (0, 1)))

    def test_of_one_row(self):
        self.assertEqual(combined([((2, -4), 6)], 2, ((1, 4),)), (((1, 2), (-1, 1)), (3, 2)))
        self.assertEqual(combined([((), 6)], 0, ((-1, 4),)), ((), (-3, 2)))

    def test_of_several_rows(self):
        rows = [((1, 2), 3), ((-1, 5), 4), ((7, 0), -1)]
        for kind in (list, tuple):
            self.assertEqual(combined(kind(rows), 2, ((1, 2), (1, 3), (0, 1))), (((1, 6), (8, 3)), (17, 6)))
            self.assertEqual(combined(kind(rows), 2, ((1, 1), (1, 1), (-1, 7))), (((-1, 1), (7, 1)), (50, 7)))

    def test_kinds(self):
        sums, bound = made = combined([((3,), 6)], 1, ((1, 3),))
        self.assertEqual([type(made), type(sums), type(sums[0]), type(bound)], [tuple] * 4)
        self.assertEqual(made, (((1, 1),), (2, 1)))

    def test_many_digits(self):
        self.assertEqual(combined([((LONG,), 1), ((1,), LONG)], 1, ((1, LONG), (1, 1))),
                         (((2, 1),), (LONG * LONG + 1, LONG)))


class WholeRow(unittest.TestCase):
    def test_ordinary(self):
        self.assertEqual(whole_row(((1, 2),), (1, 3)), ((3,), 2))
        self.assertEqual(whole_row(((1, 4), (-1, 6)), (5, 1)), ((3, -2), 60))
        self.assertEqual(whole_row(((1, 1), (2, 1)), (1, 5)), ((5, 10), 1))

    def test_a_common_factor_stays(self):
        self.assertEqual(whole_row(((4, 1), (-6, 1)), (8, 1)), ((4, -6), 8))
        self.assertEqual(whole_row(((4, 3), (-6, 1)), (8, 1)), ((4, -18), 24))
        self.assertEqual(whole_row(((0, 1), (0, 1)), (-5, 1)), ((0, 0), -5))

    def test_zeros_and_no_coordinates(self):
        self.assertEqual(whole_row(((0, 1),), (0, 1)), ((0,), 0))
        self.assertEqual(whole_row((), (-2, 3)), ((), -2))
        self.assertEqual(whole_row((), (2, 1)), ((), 2))

    def test_kinds_and_many_digits(self):
        row = whole_row(((1, LONG), (1, 2)), (LONG, 1))
        self.assertEqual(row, ((2, LONG), 2 * LONG * LONG))
        self.assertEqual([type(row), type(row[0])], [tuple, tuple])


class Arguments(unittest.TestCase):
    def test_what_is_passed_stays_as_it_was(self):
        calls = (
            (is_best, [list(ROWS), GOAL, (11, 1), POINT, SHARES]), (is_none, [list(EMPTY), 2, [[1, 1], (1, 1)]]),
            (is_endless, [list(OPEN), (1, 0), [(0, 1), (0, 1)], ((1, 1), (0, 1))]),
            (is_solution, [list(EQUATIONS), 2, [(2, 1), (1, 1)]]),
            (is_unsolvable, [list(UNSOLVABLE), 2, ((1, 1), [-2, 1])]), (is_within, [list(ROWS), POINT]),
            (combined, [list(ROWS), 2, SHARES]), (whole_row, [POINT, (1, 2)]))
        for function, arguments in calls:
            with self.subTest(function.__name__):
                before = copy.deepcopy(arguments)
                function(*arguments)
                self.assertEqual(arguments, before)


if __name__ == "__main__":
    unittest.main()
