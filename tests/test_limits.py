"""Tests of stayswithin/limits.py (points 3.1 to 3.4)."""

import copy
import itertools
import unittest

from stayswithin import limits
from stayswithin.errors import BadRow
from stayswithin.limits import check_rows, corners_of, first_broken, lies_within, meets

LONG = 10 ** 90 + 1
ROW = ((1, -20), 1000)
NO_INTEGERS = (None, True, False, "", "1", (), (1,), [], [1], (1, 1))
NO_ROWS = (
    None, True, False, 0, 1, 7, "", "a", "ab", "abc", (), [], (1,), (1, 2), ((1, 2),), ((1, 2), 3, 4),
    ((1, 2), 3, None), [(1, 2), 3], ([1, 2], 3), ((1,), 3), ((1, 2, 3), 3), ((), 3), (3, (1, 2)), ((1, 2), (3,)), ((1, 2), [3]), ("ab", 3),
    (None, 3), (12, 3), (True, 3), (((1, 2), 3),), (((1, 2),), 3), ((1, (2,)), 3))


class Interface(unittest.TestCase):
    def test_each_function_is_defined_in_the_file(self):
        for name in ("check_rows", "meets", "first_broken", "corners_of", "lies_within"):
            self.assertEqual(getattr(limits, name).__module__, "stayswithin.limits")

    def test_arguments_by_name(self):
        self.assertIsNone(check_rows(count=2, rows=[ROW]))
        self.assertIs(meets(point=((5, 1),), row=((1,), 5)), True)
        self.assertEqual(first_broken(point=((5, 1),), rows=[((1,), 4)]), 0)
        self.assertEqual(corners_of(limits=((1, 2),)), [((1, 1),), ((2, 1),)])
        self.assertIs(lies_within(point=((5, 1),), limits=((5, 6),)), True)


class CheckRows(unittest.TestCase):
    def place(self, rows, count):
        with self.assertRaises(BadRow) as caught:
            check_rows(rows, count)
        self.assertEqual(caught.exception.word, "BadRow")
        return caught.exception.place

    def test_how_many_rows(self):
        for kind in (list, tuple):
            for many in (1, 2, 15, 16):
                self.assertIsNone(check_rows(kind([ROW] * many), 2))
            for many in (0, 17, 18, 100):
                self.assertIsNone(self.place(kind([ROW] * many), 2))

    def test_too_many_rows_are_told_before_a_faulty_one(self):
        self.assertIsNone(self.place([None] * 17, 2))
        self.assertEqual(self.place([None] * 16, 2), 0)

    def test_the_numbers_of_a(self):
        for number in (0, 1, -1, 19, -19, 20, -20):
            for a in ((number, 0), (0, number)):
                self.assertIsNone(check_rows([(a, 0)], 2))
        for number in (21, -21, 22, 1000, LONG, -LONG, *NO_INTEGERS):
            for a in ((number, 0), (0, number)):
                with self.subTest(repr(a)[:40]):
                    self.assertEqual(self.place([(a, 0)], 2), 0)
                    self.assertEqual(self.place((ROW, (a, 0)), 2), 1)

    def test_the_bound(self):
        for bound in (0, 1, -1, 21, -21, 999, -999, 1000, -1000):
            self.assertIsNone(check_rows([((1, 2), bound)], 2))
        for bound in (1001, -1001, 1002, LONG, -LONG, *NO_INTEGERS):
            with self.subTest(repr(bound)[:40]):
                self.assertEqual(self.place([((1, 2), bound)], 2), 0)
                self.assertEqual(self.place((ROW, ROW, ((1, 2), bound), ROW), 2), 2)

    def test_the_index_of_the_first_faulty_row(self):
        for odd in NO_ROWS:
            with self.subTest(repr(odd)):
                self.assertEqual(self.place([odd], 2), 0)
                self.assertEqual(self.place((odd, ROW), 2), 0)
                self.assertEqual(self.place([ROW, odd, ROW], 2), 1)
                self.assertEqual(self.place([ROW] * 15 + [odd], 2), 15)
                self.assertEqual(self.place([ROW, ROW, odd, odd, ROW, None], 2), 2)

    def test_how_many_coordinates(self):
        for count in range(5):
            self.assertIsNone(check_rows([((1,) * count, 7), ((0,) * count, -7)], count))
            self.assertEqual(self.place([((1,) * count, 7), ((1,) * (count + 1), 7)], count), 1)
            self.assertEqual(self.place([((1,) * (count + 1), 7)], count), 0)
            if count > 0:
                self.assertEqual(self.place([((1,) * count, 7), ((1,) * (count - 1), 7)], count), 1)

    def test_the_same_row_may_be_there_twice(self):
        self.assertIsNone(check_rows([ROW, ROW], 2))


class Meets(unittest.TestCase):
    def test_a_row_that_holds_just_so_and_one_that_is_broken_by_a_little(self):
        for row, point, beyond in (
                (((2, -3), 1), ((1, 2), (0, 1)), ((LONG + 1, 2 * LONG), (0, 1))),
                (((2, -3), 1), ((0, 1), (-1, 3)), ((0, 1), (-LONG - 1, 3 * LONG))),
                (((-1, 0), -4), ((4, 1), (9, 1)), ((4 * LONG - 1, LONG), (9, 1))),
                (((1, 1), 0), ((1, 3), (-1, 3)), ((1, 3), (-1, 4)))):
            self.assertIs(meets(row, point), True)
            self.assertIs(meets(row, beyond), False)

    def test_far_within_and_far_beyond(self):
        self.assertIs(meets(((1, 2), 100), ((3, 1), (5, 2))), True)
        self.assertIs(meets(((1, 2), -100), ((3, 1), (5, 2))), False)

    def test_a_row_of_zeros(self):
        for bound, wanted in ((0, True), (1, True), (-1, False)):
            self.assertIs(meets(((0, 0), bound), ((1, 2), (5, 1))), wanted)
            self.assertIs(meets(((), bound), ()), wanted)

    def test_integers_of_any_size(self):
        self.assertIs(meets(((LONG, 1), LONG), ((1, 1), (0, 1))), True)
        self.assertIs(meets(((LONG, 1), LONG), ((1, 1), (1, LONG))), False)


class FirstBroken(unittest.TestCase):
    ROWS = [((1, 0), 1), ((0, 1), 1), ((-1, -1), 0), ((1, 0), 1)]

    def test_none_broken(self):
        for kind in (list, tuple):
            for point in (((1, 1), (1, 1)), ((0, 1), (0, 1)), ((1, 1), (-1, 1))):
                self.assertIsNone(first_broken(kind(self.ROWS), point))

    def test_the_first_one(self):
        for point, wanted in ((((2, 1), (2, 1)), 0), (((1, 1), (2, 1)), 1), (((0, 1), (-1, LONG)), 2),
                              (((LONG + 1, LONG), (0, 1)), 0), (((-5, 1), (3, 1)), 1), (((-5, 1), (-3, 1)), 2)):
            for kind in (list, tuple):
                self.assertEqual(first_broken(kind(self.ROWS), point), wanted)
        self.assertEqual(first_broken(self.ROWS[1:], ((2, 1), (0, 1))), 2)

    def test_no_rows(self):
        self.assertIsNone(first_broken([], ((1, 2),)))
        self.assertIsNone(first_broken((), ()))

    def test_many_rows_and_integers_of_any_size(self):
        rows = [((LONG,), LONG)] * 50 + [((LONG,), LONG - 1)]
        self.assertEqual(first_broken(rows, ((1, 1),)), 50)
        self.assertIsNone(first_broken(rows[:50], ((1, 1),)))


class CornersOf(unittest.TestCase):
    def test_no_pair(self):
        self.assertEqual(corners_of(()), [()])

    def test_one_pair(self):
        self.assertEqual(corners_of(((-2, 3),)), [((-2, 1),), ((3, 1),)])
        self.assertEqual(corners_of(((0, 20),)), [((0, 1),), ((20, 1),)])
        self.assertEqual(corners_of(((-20, 0),)), [((-20, 1),), ((0, 1),)])

    def test_pairs_of_two_equal_numbers(self):
        self.assertEqual(corners_of(((4, 4),)), [((4, 1),)])
        self.assertEqual(corners_of(((0, 0), (-3, -3))), [((0, 1), (-3, 1))])
        self.assertEqual(corners_of(((1, 1), (-1, 2))), [((1, 1), (-1, 1)), ((1, 1), (2, 1))])
        self.assertEqual(corners_of(((-1, 2), (1, 1))), [((-1, 1), (1, 1)), ((2, 1), (1, 1))])

    def test_several_pairs_ascend(self):
        self.assertEqual(
            corners_of(((-1, 1), (-2, 0))),
            [((-1, 1), (-2, 1)), ((-1, 1), (0, 1)), ((1, 1), (-2, 1)), ((1, 1), (0, 1))])
        for pairs in (((-1, 1), (5, 7), (-9, -3)), ((0, 1), (2, 2), (-4, 4), (-5, -3)), ((1, 2),) * 5):
            wanted = sorted(set(itertools.product(*pairs)))
            corners = corners_of(pairs)
            self.assertEqual([tuple(number for number, _ in corner) for corner in corners], wanted)
            self.assertEqual({divisor for corner in corners for _, divisor in corner}, {1})

    def test_a_new_list_of_tuples_each_time(self):
        for pairs in ((), ((-1, 1),), ((0, 1), (2, 2))):
            first, second = corners_of(pairs), corners_of(pairs)
            self.assertIs(type(first), list)
            self.assertEqual({type(corner) for corner in first}, {tuple})
            self.assertIsNot(first, second)
            first.clear()
            self.assertEqual(corners_of(pairs), second)


class LiesWithin(unittest.TestCase):
    def test_at_the_ends_and_between_them(self):
        for number in ((-2, 1), (3, 1), (0, 1), (-3, 2), (5, 2), (3 * LONG - 1, LONG), (1 - 2 * LONG, LONG)):
            self.assertIs(lies_within(((-2, 3),), (number,)), True)
            self.assertIs(lies_within(((0, 0), (-2, 3)), ((0, 1), number)), True)
            self.assertIs(lies_within(((-2, 3), (0, 0)), (number, (0, 1))), True)

    def test_beyond_the_ends(self):
        for number in ((-3, 1), (4, 1), (-5, 2), (7, 2), (3 * LONG + 1, LONG), (-2 * LONG - 1, LONG)):
            self.assertIs(lies_within(((-2, 3),), (number,)), False)
            self.assertIs(lies_within(((0, 0), (-2, 3)), ((0, 1), number)), False)
            self.assertIs(lies_within(((-2, 3), (0, 0)), (number, (0, 1))), False)

    def test_a_pair_of_two_equal_numbers(self):
        self.assertIs(lies_within(((5, 5),), ((5, 1),)), True)
        for number in ((4, 1), (6, 1), (5 * LONG + 1, LONG), (5 * LONG - 1, LONG), (1, 5)):
            self.assertIs(lies_within(((5, 5),), (number,)), False)

    def test_a_coordinate_more_or_fewer(self):
        pairs = ((-2, 3), (-1, 1))
        zero = (0, 1)
        for many in range(6):
            self.assertIs(lies_within(pairs, (zero,) * many), many == 2)
            self.assertIs(lies_within(pairs[:1], (zero,) * many), many == 1)

    def test_no_pair(self):
        self.assertIs(lies_within((), ()), True)
        self.assertIs(lies_within((), ((0, 1),)), False)


class Arguments(unittest.TestCase):
    def test_what_is_passed_stays_as_it_was(self):
        rows = [((1, 0), 1), ((0, 1), 1)]
        calls = (
            (check_rows, [rows, 2]), (meets, [rows[0], [(1, 2), (1, 2)]]), (first_broken, [rows, [(1, 2), (3, 2)]]),
            (corners_of, [((-1, 1), (2, 2))]), (lies_within, [((-1, 1),), [(1, 2)]]))
        for function, arguments in calls:
            with self.subTest(function.__name__):
                before = copy.deepcopy(arguments)
                function(*arguments)
                self.assertEqual(arguments, before)

    def test_what_is_passed_stays_as_it_was_if_it_is_refused(self):
        rows = [((1, 0), 1), [[1, [0]], "a"], None]
        before = copy.deepcopy(rows)
        with self.assertRaises(BadRow):
            check_rows(rows, 2)
        self.assertEqual(rows, before)


if __name__ == "__main__":
    unittest.main()
