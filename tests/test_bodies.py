"""Tests of stayswithin/bodies.py (points 4.1 to 4.5)."""

import copy
import itertools
import random
import unittest
from fractions import Fraction

from stayswithin import bodies
from stayswithin.bodies import (
    escaping, implication, implied, judge_implication, judge_implied, least_rows, outside, same_body, tight_rows)
from stayswithin.errors import BoundError, NoPoint
from tests.odd import LONG, NO_POINTS, bent, moved
from tests.papers import numbers_of, plain, point, proves_by, proves_implication, proves_none, proves_not, within

# The rectangle of the interface: x from 0 to 2, y from 0 to 3, and a row that it does not need.
ROWS = [((1, 0), 2), ((0, 1), 3), ((1, 1), 6), ((-1, 0), 0), ((0, -1), 0)]
# A square with sides of 1.
SQUARE = [((1, 0), 1), ((0, 1), 1), ((-1, 0), 0), ((0, -1), 0)]
# x is at most -1 and at least 0.
EMPTY = [((1, 0), -1), ((-1, 0), 0)]
# The diagonal x = y, x from 0 to 1, and the one point (1, 2).
FLAT = [((1, -1), 0), ((-1, 1), 0), ((1, 0), 1), ((-1, 0), 0)]
SINGLE = [((1, 0), 1), ((-1, 0), -1), ((0, 1), 2), ((0, -1), -2)]
NAMES = ("implication", "judge_implication", "implied", "escaping", "judge_implied", "least_rows", "tight_rows",
         "outside", "same_body")


def turned(row):
    return (tuple(-number for number in row[0]), -row[1])


def random_rows(rng, size, many, most, bound):
    """Rows that need not have a point."""
    return [(tuple(rng.randint(-most, most) for _ in range(size)), rng.randint(-2, bound)) for _ in range(many)]


class Asks(unittest.TestCase):
    def word(self, rows, row):
        """The word of the paper, which is judged by sums, and the same for the rows as a tuple."""
        paper = implication(rows, row)
        self.assertTrue(proves_implication(rows, row, paper), (rows, row, paper))
        self.assertIs(judge_implication(rows, row, paper), True)
        self.assertEqual(implication(tuple(rows), row)[0], paper[0])
        return paper[0]

    def has_no_point(self, function, *arguments):
        with self.assertRaises(NoPoint) as caught:
            function(*arguments)
        self.assertIsInstance(caught.exception, BoundError)
        self.assertEqual(caught.exception.word, "NoPoint")
        self.assertIsNone(caught.exception.place)


class Interface(unittest.TestCase):
    def test_each_function_is_defined_in_the_file(self):
        for name in NAMES:
            self.assertEqual(getattr(bodies, name).__module__, "stayswithin.bodies")

    def test_arguments_by_name(self):
        row = ((1, 1), 6)
        self.assertEqual(implication(row=row, rows=ROWS[:2]), ("by", ((1, 1), (1, 1))))
        self.assertIs(judge_implication(paper=("by", ((1, 1), (1, 1))), row=row, rows=ROWS[:2]), True)
        self.assertEqual(implied(rows=ROWS[:2], row=row), ((1, 1), (1, 1)))
        self.assertIsNone(escaping(rows=ROWS[:2], row=row))
        self.assertIs(judge_implied(multipliers=((1, 1), (1, 1)), rows=ROWS[:2], row=row), True)
        self.assertEqual(least_rows(rows=ROWS), (0, 1, 3, 4))
        self.assertEqual(tight_rows(rows=SINGLE), (0, 1, 2, 3))
        self.assertIsNone(outside(others=SQUARE, rows=SQUARE))
        self.assertIs(same_body(others=SQUARE, rows=ROWS), False)

    def test_the_examples(self):
        self.assertEqual(implied(((1, 1), 6), ROWS[:2]), ((1, 1), (1, 1)))
        self.assertEqual(least_rows(ROWS), (0, 1, 3, 4))


class Implication(Asks):
    def test_by(self):
        self.assertEqual(implication(ROWS[:2], ((1, 1), 5)), ("by", ((1, 1), (1, 1))))
        self.assertEqual(implication(ROWS[:2], ((1, 1), LONG)), ("by", ((1, 1), (1, 1))))
        self.assertEqual(implication([((2, 0), 3)], ((3, 0), 5)), ("by", ((3, 2),)))
        self.assertEqual(self.word(SQUARE, ((1, 1), 2)), "by")
        self.assertEqual(self.word(SQUARE, ((3, -5), 3)), "by")
        self.assertEqual(self.word(FLAT, ((2, -1), 1)), "by")
        self.assertEqual(self.word(SINGLE, ((7, -3), 1)), "by")

    def test_not(self):
        self.assertEqual(self.word(ROWS[:2], ((1, 1), 4)), "not")
        self.assertEqual(self.word(SQUARE, ((1, 1), 1)), "not")
        self.assertEqual(self.word(FLAT, ((2, -1), 0)), "not")
        self.assertEqual(implication(SINGLE, ((7, -3), 0)), ("not", ((1, 1), (2, 1))))

    def test_not_where_the_sum_can_be_as_great_as_one_likes(self):
        for bound in (-5, 0, 3, 10 ** 20):
            self.assertEqual(self.word(SQUARE[:1], ((0, 1), bound)), "not")
            self.assertEqual(self.word(SQUARE[:1], ((-1, 0), bound)), "not")
            self.assertEqual(self.word(SQUARE[:2], ((-1, -1), bound)), "not")
            self.assertEqual(self.word([((1, -2), 3), ((-2, 1), 3)], ((1, 1), bound)), "not")

    def test_none(self):
        self.assertEqual(self.word(EMPTY, ((0, 1), 5)), "none")
        self.assertEqual(self.word([((2,), 1), ((-3,), -2)], ((1,), 0)), "none")

    def test_none_even_if_the_row_follows_by_multipliers_too(self):
        for row in (EMPTY[0], EMPTY[1], ((0, 0), 0), ((1, 0), 7), ((0, 0), -1)):
            self.assertEqual(self.word(EMPTY, row), "none")
        self.assertIs(judge_implication(EMPTY, EMPTY[0], ("by", ((1, 1), (0, 1)))), True)

    def test_no_rows(self):
        self.assertEqual(implication([], ((0, 0), 0)), ("by", ()))
        self.assertEqual(implication((), ((0,), 5)), ("by", ()))
        self.assertEqual(self.word([], ((0, 0), -1)), "not")
        for row in (((1,), 5), ((-1,), 5), ((0, 3), -2), ((0, 3), 10 ** 9)):
            self.assertEqual(self.word([], row), "not")

    def test_a_row_of_zeros_that_follows(self):
        for rows in (SQUARE, FLAT, SINGLE, SQUARE[:1]):
            self.assertEqual(self.word(rows, ((0, 0), 0)), "by")
            self.assertEqual(self.word(rows, ((0, 0), 3)), "by")
            self.assertEqual(self.word(rows, ((0, 0), -1)), "not")

    def test_a_row_of_zeros_among_the_rows(self):
        self.assertEqual(self.word([((0, 0), -1)], ((1, 0), 3)), "none")
        self.assertEqual(self.word([((0, 0), 0)], ((1, 0), 3)), "not")
        self.assertEqual(self.word([((0, 0), 1)], ((0, 0), 0)), "by")
        self.assertEqual(self.word([*SQUARE, ((0, 0), 0)], ((1, 0), 1)), "by")

    def test_a_bound_that_is_just_met_and_one_that_is_missed(self):
        rows = [((3, 1), 2), ((1, 3), 1), ((-1, 0), 0), ((0, -1), 0)]
        # The greatest sum of the coordinates is 3/4.
        self.assertEqual(self.word(rows, ((4, 4), 3)), "by")
        self.assertEqual(self.word(rows, ((4, 4), 2)), "not")
        self.assertEqual(self.word(rows, ((4 * LONG, 4 * LONG), 3 * LONG)), "by")
        self.assertEqual(self.word(rows, ((4 * LONG, 4 * LONG), 3 * LONG - 1)), "not")

    def test_any_rows(self):
        rng = random.Random(51)
        words = []
        for _ in range(400):
            size = rng.randint(1, 4)
            rows = random_rows(rng, size, rng.randint(0, 7), 3, 5)
            words.append(self.word(rows, random_rows(rng, size, 1, 3, 8)[0]))
        for word in ("by", "none", "not"):
            self.assertGreater(words.count(word), 40)


class JudgeImplication(Asks):
    ROW = ((1, 1), 6)
    RIGHT = (
        (ROWS[:2], ROW, ("by", ((1, 1), (1, 1)))), (SQUARE, ((1, 0), 3), ("by", ((2, 1), (0, 1), (1, 1), (0, 1)))),
        (EMPTY, ROW, ("none", ((1, 1), (1, 1)))), (EMPTY, ROW, ("none", ((1, 3), (1, 3)))),
        (ROWS[:1], ROW, ("not", ((2, 1), (9, 2)))), (SQUARE, ((2, 2), 3), ("not", ((1, 1), (2, 3)))))

    def test_right_papers(self):
        for rows, row, paper in self.RIGHT:
            self.assertIs(judge_implication(rows, row, paper), True)
            self.assertIs(judge_implication(tuple(rows), row, paper), True)

    def test_no_rows(self):
        self.assertIs(judge_implication([], ((0,), 0), ("by", ())), True)
        self.assertIs(judge_implication([], ((0,), -1), ("by", ())), False)
        self.assertIs(judge_implication([], ((1,), 0), ("by", ())), False)
        self.assertIs(judge_implication([], ((1,), 0), ("not", ((1, 1),))), True)
        self.assertIs(judge_implication([], ((1,), 0), ("not", ((0, 1),))), False)
        self.assertIs(judge_implication([], ((1,), 0), ("none", ())), False)

    def test_another_word(self):
        for rows, row, (word, shown) in self.RIGHT:
            for other in ("by", "none", "not", "", "By", "b", "by ", None, True, 0, ("by",), ["by"], ()):
                if other != word:
                    with self.subTest(word, other=other):
                        self.assertIs(judge_implication(rows, row, (other, shown)), False)

    def test_papers_of_another_form(self):
        for rows, row, paper in self.RIGHT:
            word, shown = paper
            for odd in (list(paper), paper[:1], (*paper, ()), (*paper, None), (shown, word), (paper,), [paper], shown,
                        word, (word, word), (word, paper), word + "x", *NO_POINTS):
                with self.subTest(repr(odd)[:60]):
                    self.assertIs(judge_implication(rows, row, odd), False)

    def test_one_part_bent(self):
        for rows, row, (word, shown) in self.RIGHT:
            for odd in bent(shown):
                with self.subTest(word, odd=repr(odd)[:60]):
                    self.assertIs(judge_implication(rows, row, (word, odd)), False)

    def test_one_part_moved(self):
        rows, row, (word, shown) = (SQUARE, ((2, 2), 4), ("by", ((2, 1), (2, 1), (0, 1), (0, 1))))
        self.assertIs(judge_implication(rows, row, (word, shown)), True)
        for odd in moved(shown):
            self.assertIs(judge_implication(rows, row, (word, odd)), False)
        for odd in moved(((1, 2), (1, 2))):
            self.assertIs(judge_implication(EMPTY, row, ("none", odd)), False)
        single = (SINGLE, ((1, 1), 2), ("not", ((1, 1), (2, 1))))
        self.assertIs(judge_implication(*single), True)
        for odd in moved(single[2][1]):
            self.assertIs(judge_implication(*single[:2], ("not", odd)), False)

    def test_a_bound_that_is_just_met_and_one_that_is_missed_by_1(self):
        shares = ("by", ((1, 1), (1, 1)))
        for bound, wanted in ((4, False), (5, True), (6, True)):
            self.assertIs(judge_implication(ROWS[:2], ((1, 1), bound), shares), wanted)
        for bound, wanted in ((4, True), (5, False), (6, False)):
            self.assertIs(judge_implication(ROWS[:2], ((1, 1), bound), ("not", ((2, 1), (3, 1)))), wanted)
        for bound, wanted in ((-1, True), (0, False), (1, False)):
            rows = [((1,), bound), ((-1,), 0)]
            self.assertIs(judge_implication(rows, ((1,), 5), ("none", ((1, 1), (1, 1)))), wanted)

    def test_a_point_beyond_a_row_of_the_body(self):
        self.assertIs(judge_implication(SQUARE, ((1, 0), 0), ("not", ((1, 1), (1, 1)))), True)
        for value in (point(2, 0), point(1, -1), point("1", LONG), point(1, "3/2")):
            self.assertIs(judge_implication(SQUARE, ((1, 0), 0), ("not", value)), False)

    def test_multipliers_below_0(self):
        rows = [((1,), 1), ((-1,), -1), ((0,), 0)]
        self.assertIs(judge_implication(rows, ((1,), 1), ("by", ((1, 1), (0, 1), (0, 1)))), True)
        self.assertIs(judge_implication(rows, ((1,), 1), ("by", ((0, 1), (-1, 1), (0, 1)))), False)
        self.assertIs(judge_implication(rows, ((1,), 1), ("by", ((1, 1), (0, 1), (-1, 1)))), False)
        self.assertIs(judge_implication([((0,), 1)], ((1,), 1), ("none", ((-1, 1),))), False)


class Implied(Asks):
    def test_multipliers(self):
        self.assertEqual(implied(((1, 1), 5), ROWS[:2]), ((1, 1), (1, 1)))
        self.assertEqual(implied(((5, 0), 11), [((2, 0), 3), ((0, 1), 1)]), ((5, 2), (0, 1)))
        for rows in (SQUARE, tuple(ROWS), FLAT, SINGLE):
            for row in rows:
                self.assertTrue(proves_by(rows, row, implied(row, rows)))

    def test_none(self):
        self.assertIsNone(implied(((1, 1), 4), ROWS[:2]))
        self.assertIsNone(implied(((1, 0), 0), SQUARE))
        self.assertIsNone(implied(((1, 0), 0), SQUARE[1:]))
        self.assertIsNone(implied(((-1, 0), 10 ** 20), ROWS[:2]))

    def test_no_rows(self):
        self.assertEqual(implied(((0, 0), 0), []), ())
        self.assertEqual(implied(((0, 0), 4), ()), ())
        self.assertIsNone(implied(((0, 0), -1), []))
        self.assertIsNone(implied(((0, 1), 100), []))

    def test_rows_without_a_point(self):
        for row in (EMPTY[0], ((0, 0), 0), ((0, 1), 4), ((0, 0), -4)):
            self.has_no_point(implied, row, EMPTY)
            self.has_no_point(implied, row, tuple(EMPTY))
        self.has_no_point(implied, ((1,), 3), [((0,), -1)])


class Escaping(Asks):
    def test_a_point(self):
        for rows, row in ((SQUARE, ((1, 1), 1)), (ROWS[:2], ((1, 1), 4)), (tuple(FLAT), ((1, 0), 0)),
                          (SQUARE[:1], ((0, 1), 10 ** 20)), ([], ((2, 0), 5)), ([], ((0, 0), -1)),
                          (SQUARE[2:], ((-1, -1), -LONG))):
            self.assertTrue(proves_not(rows, row, escaping(row, rows)))
        self.assertEqual(escaping(((7, -3), 0), SINGLE), ((1, 1), (2, 1)))

    def test_none(self):
        for rows, row in ((SQUARE, ((1, 1), 2)), (ROWS[:2], ((1, 1), 5)), (FLAT, ((1, -1), 0)), ([], ((0, 0), 0)),
                          (SINGLE, ((7, -3), 1))):
            self.assertIsNone(escaping(row, rows))

    def test_rows_without_a_point(self):
        for row in (EMPTY[0], ((0, 0), 0), ((0, 1), 4), ((0, 0), -4)):
            self.has_no_point(escaping, row, EMPTY)
            self.has_no_point(escaping, row, tuple(EMPTY))

    def test_exactly_one_of_implied_and_escaping_tells_something(self):
        rng = random.Random(52)
        told = []
        for _ in range(300):
            size = rng.randint(1, 3)
            rows = random_rows(rng, size, rng.randint(0, 6), 3, 6)
            row = random_rows(rng, size, 1, 3, 9)[0]
            if implication(rows, row)[0] == "none":
                self.has_no_point(implied, row, rows)
                self.has_no_point(escaping, row, rows)
                continue
            multipliers, value = implied(row, rows), escaping(row, rows)
            told.append(value is None)
            if value is None:
                self.assertTrue(proves_by(rows, row, multipliers))
            else:
                self.assertIsNone(multipliers)
                self.assertTrue(proves_not(rows, row, value))
        self.assertGreater(told.count(True), 40)
        self.assertGreater(told.count(False), 40)


class JudgeImplied(Asks):
    ROW = ((1, 1), 6)

    def test_right_multipliers(self):
        self.assertIs(judge_implied(self.ROW, ROWS[:2], ((1, 1), (1, 1))), True)
        self.assertIs(judge_implied(self.ROW, tuple(ROWS), ((0, 1), (0, 1), (1, 1), (0, 1), (0, 1))), True)
        self.assertIs(judge_implied(self.ROW, ROWS, ((1, 2), (1, 2), (1, 2), (0, 1), (0, 1))), True)
        self.assertIs(judge_implied(self.ROW, ROWS, ((3, 2), (1, 1), (0, 1), (1, 2), (0, 1))), True)

    def test_no_rows(self):
        self.assertIs(judge_implied(((0, 0), 0), [], ()), True)
        self.assertIs(judge_implied(((0, 0), 7), (), ()), True)
        self.assertIs(judge_implied(((0, 0), -1), [], ()), False)
        self.assertIs(judge_implied(((0, 1), 5), [], ()), False)
        for odd in ([], None, "", ((0, 1),), ((),), 0, False):
            self.assertIs(judge_implied(((0, 0), 0), [], odd), False)

    def test_multipliers_of_rows_without_a_point(self):
        self.assertIs(judge_implied(EMPTY[0], EMPTY, ((1, 1), (0, 1))), True)
        self.assertIs(judge_implied(((0, 1), 4), EMPTY, ((1, 1), (1, 1))), False)

    def test_one_part_bent_or_moved(self):
        row = ((1, 1), 5)
        for odd in (*bent(((1, 1), (1, 1))), *moved(((1, 1), (1, 1)))):
            with self.subTest(repr(odd)[:60]):
                self.assertIs(judge_implied(row, ROWS[:2], odd), False)
        for odd in bent(((1, 2), (1, 2), (1, 2), (0, 1), (0, 1))):
            with self.subTest(repr(odd)[:60]):
                self.assertIs(judge_implied(self.ROW, ROWS, odd), False)

    def test_true_and_false_are_no_integers(self):
        self.assertIs(judge_implied(((1,), 1), [((1,), 1)], ((1, 1),)), True)
        for odd in ((True, 1), (1, True), (True, True)):
            self.assertIs(judge_implied(((1,), 1), [((1,), 1)], (odd,)), False)
        for odd in ((False, 1), (0, True)):
            self.assertIs(judge_implied(((1,), 1), [((1,), 1), ((1,), 1)], ((1, 1), odd)), False)

    def test_multipliers_below_0(self):
        rows = [((1,), 1), ((-1,), -1), ((0,), 0)]
        self.assertIs(judge_implied(((1,), 1), rows, ((0, 1), (-1, 1), (0, 1))), False)
        self.assertIs(judge_implied(((1,), 1), rows, ((1, 1), (0, 1), (-1, LONG))), False)
        self.assertIs(judge_implied(((1,), 1), rows, ((1, 1), (0, 1), (1, LONG))), True)

    def test_a_bound_that_is_just_met_and_one_that_is_missed(self):
        for bound, wanted in ((4, False), (5, True), (6, True)):
            self.assertIs(judge_implied(((1, 1), bound), ROWS[:2], ((1, 1), (1, 1))), wanted)
        self.assertIs(judge_implied(((2, 0), 3), [((4, 0), 7)], ((1, 2),)), False)
        self.assertIs(judge_implied(((2, 0), 4), [((4, 0), 7)], ((1, 2),)), True)

    def test_another_sum(self):
        self.assertIs(judge_implied(((2, 1), 9), ROWS[:2], ((1, 1), (1, 1))), False)
        self.assertIs(judge_implied(((1, -1), 9), ROWS[:2], ((1, 1), (1, 1))), False)


class LeastRows(Asks):
    def check(self, rows, wanted):
        self.assertEqual(least_rows(rows), wanted)
        self.assertEqual(least_rows(tuple(rows)), wanted)

    def test_ordinary_bodies(self):
        self.check(ROWS, (0, 1, 3, 4))
        self.check(SQUARE, (0, 1, 2, 3))
        self.check([((1,), 3), ((1,), 2), ((-1,), 0), ((-2,), 1)], (1, 2))
        self.check([*SQUARE, ((1, 1), 1)], (2, 3, 4))
        self.check([((1, 1), 1), *SQUARE], (0, 3, 4))

    def test_of_two_rows_alike_the_first_one_stays(self):
        self.check(SQUARE + SQUARE, (0, 1, 2, 3))
        self.check([SQUARE[0], *SQUARE], (0, 2, 3, 4))
        self.check([((1,), 1), ((1,), 1)], (0,))
        self.check([((3,), 3), ((1,), 1), ((2,), 2)], (0,))
        # Each of the three is the sum of the two others: the last one goes.
        self.check([((1, -1), 0), ((-1, 1), 0), ((2, -2), 0), ((-3, 3), 0)], (0, 1))

    def test_rows_that_are_sums_of_others(self):
        self.check([((1, 1), 2), ((1, 0), 1), ((0, 1), 1)], (1, 2))
        self.check([((1, 0), 1), ((1, 1), 2), ((0, 1), 1)], (0, 2))
        self.check([((1, 0), 1), ((0, 1), 1), ((2, 3), 5)], (0, 1))
        self.check([((1, 0), 1), ((0, 1), 1), ((2, 3), 4)], (0, 1, 2))

    def test_from_the_last_row_to_the_first_one(self):
        # x = y is told by any two that go against each other: the first ones stay.
        self.check([((1, -1), 0), ((2, -2), 0), ((-1, 1), 0), ((-5, 5), 0)], (0, 2))
        # Three rows through the point (0, 0) of which two together are the third one; then with the point alone.
        self.check([((1, 0), 0), ((-1, 0), 0), ((0, 1), 0), ((0, -1), 0), ((1, 1), 0), ((-1, -1), 0)], (0, 1, 2, 3))
        self.check([((-1, -1), 0), ((1, 1), 0), ((0, -1), 0), ((0, 1), 0), ((-1, 0), 0), ((1, 0), 0)], (0, 1, 2, 3))
        self.check([((1, 0), 0), ((0, 1), 0), ((-1, -1), 0), ((-1, 0), 0), ((0, -1), 0)], (0, 1, 2))

    def test_flat_bodies_and_bodies_of_one_point(self):
        self.check(FLAT, (0, 1, 2, 3))
        self.check([*FLAT, ((0, 1), 1), ((0, -1), 0)], (0, 1, 2, 3))
        self.check(SINGLE, (0, 1, 2, 3))
        self.check([*SINGLE, ((1, 1), 3)], (0, 1, 2, 3))
        self.check([((1, 1), 3), *SINGLE], (0, 2, 4))

    def test_rows_of_zeros(self):
        self.check([((0, 0), 0)], ())
        self.check([((0, 0), 5), ((1, 0), 2), ((0, 0), 0)], (1,))

    def test_no_rows(self):
        self.check([], ())

    def test_rows_without_a_point(self):
        for rows in (EMPTY, tuple(EMPTY), [((0,), -1)], [*SQUARE, ((1, 1), -1)], [((0, 0), -3), ((0, 0), 0)]):
            self.has_no_point(least_rows, rows)

    def test_any_rows(self):
        rng = random.Random(53)
        left_out = 0
        for _ in range(150):
            size = rng.randint(1, 3)
            rows = [(a, abs(b)) for a, b in random_rows(rng, size, rng.randint(1, 8), 2, 4)]
            # The same with papers that are judged by sums, by the words of point 4.5.
            there = list(range(len(rows)))
            for index in reversed(range(len(rows))):
                others = [rows[at] for at in there if at != index]
                if self.word(others, rows[index]) == "by":
                    there.remove(index)
            self.check(rows, tuple(there))
            left_out += len(rows) - len(there)
            self.assertIs(same_body(rows, [rows[at] for at in there]), True)
        self.assertGreater(left_out, 150)


class TightRows(Asks):
    def check(self, rows, wanted):
        self.assertEqual(tight_rows(rows), wanted)
        self.assertEqual(tight_rows(tuple(rows)), wanted)

    def test_bodies_that_are_not_flat(self):
        self.check(ROWS, ())
        self.check(SQUARE, ())
        self.check([((1,), 1)], ())
        # A row that the body meets with equality at one point alone.
        self.check([*SQUARE, ((1, 1), 2)], ())

    def test_flat_bodies(self):
        self.check(FLAT, (0, 1))
        self.check([((1, 0), 1), *FLAT], (1, 2))
        self.check([((1, 1), 0), ((-1, 0), 0), ((0, -1), 0), ((1, 0), 3)], (0, 1, 2))
        self.check([((1, 0, 0), 1), ((-1, 0, 0), -1), ((0, 1, 0), 2)], (0, 1))

    def test_bodies_of_one_point(self):
        self.check(SINGLE, (0, 1, 2, 3))
        self.check([*SINGLE, ((1, 1), 4), ((1, 1), 3)], (0, 1, 2, 3, 5))

    def test_rows_of_zeros(self):
        self.check([((0, 0), 0)], (0,))
        self.check([((0, 0), 1), ((1, 0), 2), ((0, 0), 0)], (2,))

    def test_no_rows(self):
        self.check([], ())

    def test_rows_without_a_point(self):
        for rows in (EMPTY, tuple(EMPTY), [((0,), -1)], [((1, 0), 0), ((-1, 0), -1), ((0, 0), 0)]):
            self.has_no_point(tight_rows, rows)

    def test_any_rows(self):
        rng = random.Random(54)
        many = 0
        for _ in range(150):
            size = rng.randint(1, 3)
            rows = [(a, max(b, 0)) for a, b in random_rows(rng, size, rng.randint(1, 7), 2, 1)]
            wanted = tuple(at for at, row in enumerate(rows) if self.word(rows, turned(row)) == "by")
            self.check(rows, wanted)
            many += len(wanted)
        self.assertGreater(many, 100)


class Outside(Asks):
    def check(self, rows, others, index):
        told = outside(rows, others)
        self.assertIs(type(told), tuple)
        self.assertEqual(len(told), 2)
        self.assertEqual(told[0], index)
        self.assertTrue(proves_not(rows, others[index], told[1]))
        self.assertEqual(outside(tuple(rows), tuple(others))[0], index)

    def test_none(self):
        self.assertIsNone(outside(SQUARE, ROWS))
        self.assertIsNone(outside(tuple(SQUARE), tuple(ROWS)))
        self.assertIsNone(outside(SQUARE, SQUARE))
        self.assertIsNone(outside(FLAT, [((1, -1), 0), ((0, 1), 1)]))

    def test_the_first_of_the_others(self):
        self.check(ROWS, SQUARE, 0)
        self.check(ROWS, [SQUARE[3], SQUARE[2], SQUARE[1], SQUARE[0]], 2)
        self.check(SQUARE, [((1, 0), 1), ((1, 1), 1), ((1, 0), 0)], 1)
        self.check(SQUARE[:1], [((1, 0), 1), ((0, 1), 10 ** 20)], 1)
        self.check(SINGLE, [((1, 1), 3), ((1, 1), 2)], 1)
        self.check(SQUARE, [((0, 0), 0), ((0, 0), -1)], 1)

    def test_no_rows_and_no_others(self):
        self.assertIsNone(outside([], []))
        self.assertIsNone(outside((), ()))
        self.assertIsNone(outside(SQUARE, []))
        self.assertIsNone(outside([], [((0, 0), 0)]))
        self.check([], [((0, 0), 0), ((0, 0), -1)], 1)
        self.check([], SQUARE, 0)

    def test_rows_without_a_point(self):
        for others in (SQUARE, EMPTY, [], [((0, 0), 0)], [((0, 0), -1)]):
            self.has_no_point(outside, EMPTY, others)
            self.has_no_point(outside, tuple(EMPTY), tuple(others))
        self.has_no_point(outside, [((0, 0), -1)], [])
        self.has_no_point(same_body, [((0, 0), -1)], [])

    def test_others_without_a_point(self):
        self.check(SQUARE, EMPTY, 0)
        self.check(SQUARE, [*SQUARE, *EMPTY], 4)


class SameBody(Asks):
    def check(self, rows, others, wanted):
        for first, second in ((rows, others), (others, rows), (tuple(rows), others), (rows, tuple(others))):
            self.assertIs(same_body(first, second), wanted)

    def test_the_same(self):
        self.check(SQUARE, SQUARE[::-1], True)
        self.check(SQUARE, [*SQUARE, ((1, 1), 2), ((0, 0), 0)], True)
        self.check(ROWS, [ROWS[at] for at in (0, 1, 3, 4)], True)
        self.check(SINGLE, [((1, 0), 1), ((0, 1), 2), ((-1, -1), -3)], True)
        self.check(FLAT, [((2, -2), 0), ((-3, 3), 0), ((0, 1), 1), ((0, -4), 0)], True)
        self.check([((2,), 1)], [((4,), 2), ((4,), 3)], True)

    def test_others(self):
        self.check(SQUARE, ROWS, False)
        self.check(SQUARE, SQUARE[1:], False)
        self.check(SQUARE, FLAT, False)
        self.check(SINGLE, [*SINGLE[:3], ((0, -1), -1)], False)
        self.check([((LONG,), 1)], [((LONG + 1,), 1)], False)
        self.check([((1,), 0)], [((-1,), 0)], False)

    def test_no_rows(self):
        self.check([], [], True)
        self.check([], [((0, 0), 0)], True)
        self.check([], [((1, 0), 10 ** 9)], False)

    def test_without_a_point(self):
        for rows in (SQUARE, SINGLE, [((0, 0), 0)], []):
            self.assertIs(same_body(rows, EMPTY), False)
            self.assertIs(same_body(rows, [((0, 0), -1)]), False)
            self.has_no_point(same_body, EMPTY, rows)
            self.has_no_point(same_body, tuple(EMPTY), tuple(rows))
        self.has_no_point(same_body, EMPTY, EMPTY)


class SmallBodies(Asks):
    """Bodies in the plane, against the corners in which their lines cross."""

    def corners(self, rows):
        for first, second in itertools.combinations(rows, 2):
            (a, b), e = first
            (c, d), f = second
            base = a * d - b * c
            if base:
                crossing = point(Fraction(e * d - b * f, base), Fraction(a * f - e * c, base))
                if within(rows, numbers_of(crossing, 2)):
                    yield crossing

    def test_greatest_sums(self):
        rng = random.Random(55)
        box = [((1, 0), 9), ((0, 1), 9), ((-1, 0), 9), ((0, -1), 9)]
        for _ in range(60):
            rows = box + [(a, abs(b)) for a, b in random_rows(rng, 2, 4, 4, 12)]
            numbers = (rng.randint(-5, 5), rng.randint(-5, 5))
            greatest = max(numbers[0] * plain(x) + numbers[1] * plain(y) for x, y in self.corners(rows))
            # The greatest sum is e / d: d times the row is just met.
            d, e = greatest.denominator, greatest.numerator
            whole = tuple(d * number for number in numbers)
            self.assertTrue(proves_by(rows, (whole, e), implied((whole, e), rows)))
            self.assertIsNone(implied((whole, e - 1), rows))
            self.assertIsNone(escaping((whole, e), rows))
            self.assertTrue(proves_not(rows, (whole, e - 1), escaping((whole, e - 1), rows)))


class Arguments(Asks):
    def test_what_is_passed_stays_as_it_was(self):
        row = ((1, 1), 1)
        calls = (
            (implication, [list(SQUARE), row]), (implication, [list(EMPTY), row]), (implication, [SQUARE[:1], row]),
            (judge_implication, [list(SQUARE), row, ["by", [(1, 1)]]]),
            (judge_implication, [list(SQUARE), row, ("by", [(1, 1), [0, 1]])]), (implied, [row, list(SQUARE)]),
            (escaping, [row, list(SQUARE)]), (judge_implied, [row, list(SQUARE), [[1, 1], (1, 1)]]),
            (least_rows, [list(ROWS)]), (tight_rows, [list(FLAT)]), (outside, [list(ROWS), list(SQUARE)]),
            (outside, [list(SQUARE), list(ROWS)]), (same_body, [list(SQUARE), list(SQUARE)]))
        for function, arguments in calls:
            with self.subTest(function.__name__):
                before = copy.deepcopy(arguments)
                function(*arguments)
                self.assertEqual(arguments, before)

    def test_what_is_refused_stays_as_it_was(self):
        for function, arguments in ((implied, [((1, 1), 1), list(EMPTY)]), (escaping, [((1, 1), 1), list(EMPTY)]),
                                    (least_rows, [list(EMPTY)]), (tight_rows, [list(EMPTY)]),
                                    (outside, [list(EMPTY), list(SQUARE)]), (same_body, [list(EMPTY), list(SQUARE)])):
            before = copy.deepcopy(arguments)
            self.has_no_point(function, *arguments)
            self.assertEqual(arguments, before)

    def test_papers_are_judged_by_sums_that_see_a_fault(self):
        # The sums of these tests do not take wrong papers.
        self.assertFalse(proves_by(ROWS[:2], ((1, 1), 4), ((1, 1), (1, 1))))
        self.assertFalse(proves_not(SQUARE, ((1, 1), 2), ((1, 1), (1, 1))))
        self.assertFalse(proves_none(SQUARE, 2, ((1, 1), (0, 1), (1, 1), (0, 1))))


if __name__ == "__main__":
    unittest.main()
