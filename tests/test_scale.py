"""Tests of stayswithin/scale.py (points 7.1 and 7.2)."""

import copy
import random
import unittest
from fractions import Fraction

from stayswithin import scale
from stayswithin.kept import kept
from stayswithin.machine import Machine
from stayswithin.points import scaled
from stayswithin.programs import is_best, is_within
from stayswithin.scale import goal_of, greatest_multiple, rows_of
from stayswithin.simplex import best
from tests.bodies_kept import corners, is_multiple
from tests.odd import LONG
from tests.papers import numbers_of, plain, point, proves, within

# The machine of the introduction: from x to 2 x + u + w.
DOUBLE = Machine(((2,),), ((1,),), ((1,),), 1, ((-2, 2),), ((-1, 1),))
ONES = [point(-1), point(1)]
LIMITS = [((1,), 5), ((-1,), 5)]
# From x to x / 2, to x + w, to 2 x, and to 2 x + u.
HALF = Machine(((1,),), ((),), ((),), 2, (), ())
DRIFTING = Machine(((1,),), ((),), ((1,),), 1, (), ((0, 1),))
GROWING = Machine(((2,),), ((),), ((),), 1, (), ())
STEERED = Machine(((2,),), ((1,),), ((),), 1, ((-3, 4),), ())
PLANE = Machine(((4, 1), (-1, 4)), ((1, 0), (0, 2)), ((1, 0), (1, 1)), 5, ((-3, 2), (-1, 1)), ((-1, 1), (0, 1)))
SQUARE = [point(-2, -2), point(-2, 2), point(2, -2), point(2, 2)]
BOX = [((1, 0), 6), ((0, 1), 6), ((-1, 0), 6), ((0, -1), 6)]


def size_of(machine, points):
    q = len(points)
    return 1 + machine.inputs * q + len(corners(machine.disturbance_limits)) * q * q


def numbers_from(factor, paper):
    """The numbers of the program for a multiple and a paper that it is kept: its weights times the multiple."""
    inputs, weights = paper
    numbers = [factor]
    for chosen in inputs:
        numbers.extend(plain(part) for part in chosen)
    for mixes in weights:
        for share in mixes:
            numbers.extend(factor * plain(part) for part in share)
    return numbers


def multiple(points, factor):
    return [scaled(each, point(factor)[0]) for each in points]


def random_case(rng):
    n, m, p = rng.randint(1, 2), rng.randint(0, 2), rng.randint(0, 2)
    a, b, e = (tuple(tuple(rng.randint(-5, 5) for _ in range(width)) for _ in range(n)) for width in (n, m, p))
    pairs = [tuple((rng.randint(-most, 0), rng.randint(0, most)) for _ in range(width)) for width, most in ((m, 9), (p, 1))]
    machine = Machine(a, b, e, rng.randint(2, 12), *pairs)
    points = [point(*(Fraction(rng.randint(-6, 6), rng.randint(1, 2)) for _ in range(n)))
              for _ in range(rng.randint(1, 4))]
    limits = [(tuple(rng.randint(-4, 4) for _ in range(n)), rng.randint(0, 60)) for _ in range(rng.randint(1, 4))]
    return machine, limits, points


class Asks(unittest.TestCase):
    def answer(self, machine, limits, points):
        """The answer, its paper judged by sums."""
        told = greatest_multiple(machine, limits, points)
        rows = rows_of(machine, limits, points)
        self.assertTrue(proves(rows, goal_of(machine, points), told), (machine, limits, points))
        for function in (greatest_multiple, rows_of):
            self.assertEqual(function(machine, tuple(limits), tuple(points)), function(machine, limits, points))
        if told[0] != "none":
            self.assertTrue(is_multiple(machine, limits, points, numbers_of(told[-2], size_of(machine, points))))
        return told

    def value(self, machine, limits, points):
        told = self.answer(machine, limits, points)
        self.assertEqual(told[0], "best")
        self.assertEqual(plain(told[1]), plain(told[2][0]))
        return plain(told[1])

    def is_good(self, machine, limits, points, factor):
        """Whether this multiple of the body is within the limits and kept."""
        made = multiple(points, factor)
        return (all(within(limits, numbers_of(each, machine.states)) for each in made)
                and kept(machine, made)[0] == "kept")


class Interface(unittest.TestCase):
    def test_each_function_is_defined_in_the_file(self):
        for name in ("rows_of", "goal_of", "greatest_multiple"):
            self.assertEqual(getattr(scale, name).__module__, "stayswithin.scale")

    def test_arguments_by_name(self):
        self.assertEqual(greatest_multiple(points=ONES, limits=LIMITS, machine=DOUBLE)[:2], ("best", (1, 1)))
        self.assertEqual(goal_of(points=ONES, machine=HALF), (1, 0, 0, 0, 0))
        self.assertEqual(len(rows_of(points=ONES, limits=LIMITS, machine=HALF)[0][0]), 5)

    def test_the_example(self):
        self.assertEqual(greatest_multiple(DOUBLE, LIMITS, ONES)[:2], ("best", (1, 1)))


class GoalOf(unittest.TestCase):
    def test_the_first_number_alone(self):
        for machine, points in ((DOUBLE, ONES), (HALF, [point(3)]), (PLANE, SQUARE), (STEERED, ONES), (DRIFTING, ONES)):
            goal = goal_of(machine, points)
            self.assertEqual(goal, (1,) + (0,) * (size_of(machine, points) - 1))
            self.assertEqual({type(number) for number in goal}, {int})
        self.assertEqual(len(goal_of(HALF, [point(3)])), 2)
        self.assertEqual(len(goal_of(DOUBLE, ONES)), 11)
        self.assertEqual(len(goal_of(PLANE, SQUARE)), 73)


class RowsOf(unittest.TestCase):
    def check(self, machine, limits, points, numbers):
        """The rows take these numbers exactly if they are right by the words of point 7.1."""
        wanted = is_multiple(machine, limits, points, numbers)
        self.assertIs(is_within(rows_of(machine, limits, points), point(*numbers)), wanted)
        return wanted

    def test_the_form(self):
        for machine, limits, points in ((DOUBLE, LIMITS, ONES), (HALF, [((1,), 4)], [point("1/3")]),
                                        (PLANE, BOX, SQUARE)):
            rows = rows_of(machine, limits, points)
            self.assertIs(type(rows), list)
            for row in rows:
                self.assertEqual([type(row), type(row[0]), type(row[1])], [tuple, tuple, int])
                self.assertEqual(len(row[0]), size_of(machine, points))
                self.assertEqual({type(number) for number in row[0]}, {int})

    def test_right_numbers(self):
        # For s = 1 the inputs are 2 and -2; the corners keep themselves.
        right = [1, 2, -2, 1, 0, 0, 1, 1, 0, 0, 1]
        self.assertTrue(self.check(DOUBLE, LIMITS, ONES, right))
        # Half of a body that x / 2 keeps, with weights of two kinds.
        self.assertTrue(self.check(HALF, LIMITS, ONES, [2, Fraction(3, 2), Fraction(1, 2), Fraction(1, 2), Fraction(3, 2)]))
        self.assertTrue(self.check(HALF, LIMITS, ONES, [0, 0, 0, 0, 0]))
        paper = kept(PLANE, SQUARE)[1:]
        self.assertTrue(self.check(PLANE, BOX, SQUARE, numbers_from(1, paper)))

    def test_each_number_moved(self):
        right = [1, 2, -2, 1, 0, 0, 1, 1, 0, 0, 1]
        for at in range(len(right)):
            for change in (1, -1, Fraction(1, LONG), Fraction(-1, LONG)):
                numbers = list(right)
                numbers[at] += change
                self.assertFalse(self.check(DOUBLE, LIMITS, ONES, numbers))

    def test_s_is_not_below_0(self):
        still = Machine(((1,),), ((),), ((),), 1, (), ())
        for factor, wanted in ((0, True), (1, True), (-1, False), (Fraction(-1, LONG), False)):
            # A body of the one point 0, with the weight s.
            self.assertIs(self.check(still, [((1,), 5)], [point(0)], [factor, factor]), wanted)

    def test_the_corners_times_s_meet_the_limits(self):
        points = [point(1), point(2), point(-3)]
        for factor, wanted in ((1, True), (Fraction(5, 2), True), (Fraction(5, 2) + Fraction(1, LONG), False), (3, False)):
            numbers = [factor] + [0] * 9
            # 0 for all next states: 3/5 of the second and 2/5 of the third point.
            gone = Machine(((0,),), ((),), ((),), 1, (), ())
            for at in range(3):
                numbers[2 + 3 * at] = factor * Fraction(3, 5)
                numbers[3 + 3 * at] = factor * Fraction(2, 5)
            self.assertIs(self.check(gone, [((1,), 5), ((-1,), 10)], points, numbers), wanted)
            self.assertTrue(self.check(gone, [((1,), 6), ((-1,), 9)], points, numbers))
            self.assertTrue(self.check(gone, [((0,), 0)], points, numbers))
            self.assertFalse(self.check(gone, [((0,), -1)], points, numbers))
            self.assertFalse(self.check(gone, [((1,), 100), ((1,), -1)], points, numbers))

    def test_the_inputs_are_within_their_limits(self):
        # From 0 to u; the point 0 alone, with the matrix 0 for the input.
        free = Machine(((1,),), ((0, 0),), ((),), 1, ((-1, 2), (3, 3)), ())
        for first, second, wanted in ((-1, 3, True), (2, 3, True), (0, 3, True), (3, 3, False), (-2, 3, False),
                                      (0, 2, False), (0, 4, False), (2 + Fraction(1, LONG), 3, False)):
            self.assertIs(self.check(free, [((1,), 5)], [point(0)], [1, first, second, 1]), wanted)

    def test_weights(self):
        gone = Machine(((0,),), ((),), ((),), 1, (), ())
        points = [point(-1), point(0), point(1)]
        # Each mixes 0: two numbers for the corners at the ends, the rest for the middle.
        for factor, shares, wanted in (
                (1, (0, 1, 0), True), (1, (Fraction(1, 2), 0, Fraction(1, 2)), True), (1, (1, -1, 1), False),
                (1, (0, 0, 0), False), (1, (1, 0, 1), False), (2, (1, 0, 1), True), (2, (0, 1, 0), False),
                (1, (-1, 3, -1), False), (0, (0, 0, 0), True), (0, (1, -2, 1), False), (1, (1, 0, 0), False)):
            for at in range(3):
                numbers = [factor] + [0, factor, 0] * 3
                numbers[1 + 3 * at:4 + 3 * at] = shares
                self.assertIs(self.check(gone, [((1,), 9)], points, numbers), wanted)

    def test_numbers_of_any_case(self):
        rng = random.Random(111)
        good = 0
        for _ in range(80):
            machine, limits, points = random_case(rng)
            factor = Fraction(rng.randint(0, 6), rng.randint(1, 3))
            answer = kept(machine, multiple(points, factor))
            if answer[0] == "kept":
                numbers = numbers_from(factor, answer[1:])
                good += self.check(machine, limits, points, numbers)
                for _ in range(4):
                    moved = list(numbers)
                    moved[rng.randrange(len(moved))] += rng.choice((1, -1, Fraction(1, 7), Fraction(-1, 9)))
                    self.check(machine, limits, points, moved)
            self.check(machine, limits, points, [rng.randint(-1, 2) for _ in range(size_of(machine, points))])
        self.assertGreater(good, 10)


class GreatestMultiple(Asks):
    def test_best(self):
        self.assertEqual(self.value(DOUBLE, LIMITS, ONES), 1)
        self.assertEqual(self.value(DOUBLE, LIMITS, [point(-5), point(5)]), Fraction(1, 5))
        self.assertEqual(self.value(HALF, LIMITS, ONES), 5)
        self.assertEqual(self.value(HALF, [((3,), 5)], ONES), Fraction(5, 3))
        self.assertEqual(self.value(STEERED, LIMITS, ONES), 3)
        self.assertEqual(self.value(STEERED, [((0,), 0)], [point(-2), point(1)]), 2)
        self.assertEqual(self.value(STEERED, [((0,), 0)], [point(-1), point(2)]), Fraction(3, 2))

    def test_none(self):
        self.assertEqual(self.answer(DRIFTING, LIMITS, ONES)[0], "none")
        # Only multiples beyond the limits are kept: from 1 on, up to 1/2.
        self.assertEqual(self.answer(DOUBLE, [((2,), 1)], ONES)[0], "none")
        self.assertEqual(self.answer(HALF, [((0,), -1)], ONES)[0], "none")
        lifted = Machine(((1,),), ((1,),), ((),), 1, ((1, 2),), ())
        self.assertEqual(self.answer(lifted, LIMITS, ONES)[0], "none")

    def test_endless(self):
        self.assertEqual(self.answer(HALF, [((0,), 0)], ONES)[0], "endless")
        self.assertEqual(self.answer(HALF, [((-1,), 5)], [point(0), point(3)])[0], "endless")
        self.assertEqual(self.answer(HALF, LIMITS, [point(0)])[0], "endless")
        pushed = Machine(((1,),), ((),), ((1,),), 2, (), ((-3, 3),))
        self.assertEqual(self.answer(pushed, [((0,), 0)], ONES)[0], "endless")
        for factor, wanted in ((2, False), (3 - Fraction(1, LONG), False), (3, True), (LONG, True)):
            self.assertIs(self.is_good(pushed, [((0,), 0)], ONES, factor), wanted)

    def test_a_multiple_of_0(self):
        self.assertEqual(self.value(GROWING, LIMITS, ONES), 0)
        self.assertEqual(self.value(HALF, [((1,), 0)], ONES), 0)
        told = greatest_multiple(GROWING, LIMITS, ONES)
        self.assertEqual(told[:3], ("best", (0, 1), point(0, 0, 0, 0, 0)))
        self.assertTrue(self.is_good(GROWING, LIMITS, ONES, 0))
        self.assertFalse(self.is_good(GROWING, LIMITS, ONES, Fraction(1, LONG)))

    def test_the_limits_or_the_inputs_end_it(self):
        self.assertEqual(self.value(STEERED, [((1,), 2), ((-1,), 2)], ONES), 2)
        self.assertEqual(self.value(STEERED, [((1,), 3), ((-1,), 3)], ONES), 3)
        self.assertEqual(self.value(STEERED, [((1,), 4), ((-1,), 4)], ONES), 3)

    def test_a_little_more_than_the_greatest_one(self):
        for machine, limits, points in ((DOUBLE, LIMITS, ONES), (HALF, LIMITS, ONES), (STEERED, LIMITS, ONES),
                                        (PLANE, BOX, SQUARE), (DOUBLE, [((0,), 0)], ONES)):
            greatest = self.value(machine, limits, points)
            self.assertTrue(self.is_good(machine, limits, points, greatest))
            self.assertFalse(self.is_good(machine, limits, points, greatest + Fraction(1, LONG)))
            self.assertTrue(kept(machine, multiple(points, greatest))[0] == "kept")

    def test_between_two_multiples_all_are_such_ones(self):
        pushed = Machine(((1,),), ((),), ((1,),), 2, (), ((-3, 3),))
        self.assertEqual(self.value(pushed, LIMITS, ONES), 5)
        for factor in (3, Fraction(7, 2), 4, 5):
            self.assertTrue(self.is_good(pushed, LIMITS, ONES, factor))

    def test_the_answer_of_best_for_these_rows_and_this_goal(self):
        for machine, limits, points in ((DOUBLE, LIMITS, ONES), (HALF, [((0,), 0)], ONES), (DRIFTING, LIMITS, ONES),
                                        (PLANE, BOX, SQUARE)):
            rows, goal = rows_of(machine, limits, points), goal_of(machine, points)
            self.assertEqual(greatest_multiple(machine, limits, points), best(rows, goal))
        told = greatest_multiple(PLANE, BOX, SQUARE)
        self.assertIs(is_best(rows_of(PLANE, BOX, SQUARE), goal_of(PLANE, SQUARE), *told[1:]), True)

    def test_any_case(self):
        rng = random.Random(112)
        seen = []
        for _ in range(100):
            machine, limits, points = random_case(rng)
            told = self.answer(machine, limits, points)
            seen.append(told[0])
            if told[0] == "best":
                greatest = plain(told[1])
                self.assertTrue(self.is_good(machine, limits, points, greatest))
                for more in (Fraction(1, LONG), 1):
                    self.assertFalse(self.is_good(machine, limits, points, greatest + more))
            elif told[0] == "endless":
                high = plain(told[1][0]) + 10 ** 6
                self.assertTrue(self.is_good(machine, limits, points, high))
            else:
                for factor in (0, Fraction(1, 3), 1, 7):
                    self.assertFalse(self.is_good(machine, limits, points, factor))
        for word in ("best", "none", "endless"):
            self.assertGreater(seen.count(word), 2)

    def test_a_cube(self):
        machine = Machine(((5, 1, 0), (-1, 5, 1), (0, 1, 6)), ((1, 0), (0, 1), (1, 1)), ((1,), (0,), (-1,)), 7,
                          ((-5, 5),) * 2, ((-1, 1),))
        cube = [point(x, y, z) for x in (-1, 1) for y in (-1, 1) for z in (-1, 1)]
        limits = [((1, 0, 0), 20), ((0, 1, 1), 30), ((1, -2, 3), 99)]
        greatest = self.value(machine, limits, cube)
        self.assertTrue(self.is_good(machine, limits, cube, greatest))
        self.assertFalse(self.is_good(machine, limits, cube, greatest + Fraction(1, LONG)))


class Arguments(unittest.TestCase):
    def test_what_is_passed_stays_as_it_was(self):
        for function, arguments in ((rows_of, [DOUBLE, list(LIMITS), list(ONES)]), (goal_of, [DOUBLE, list(ONES)]),
                                    (greatest_multiple, [DOUBLE, list(LIMITS), list(ONES)])):
            before = copy.deepcopy((vars(arguments[0]), arguments[1:]))
            function(*arguments)
            self.assertEqual((vars(arguments[0]), arguments[1:]), before)

    def test_a_new_list_each_time(self):
        first, second = rows_of(DOUBLE, LIMITS, ONES), rows_of(DOUBLE, LIMITS, ONES)
        self.assertIsNot(first, second)
        first.clear()
        self.assertEqual(rows_of(DOUBLE, LIMITS, ONES), second)


if __name__ == "__main__":
    unittest.main()
