"""Tests of stayswithin/simplex.py (points 2.1 to 2.5)."""

import copy
import itertools
import random
import unittest
from fractions import Fraction
from unittest import mock

from stayswithin import simplex, table
from stayswithin.simplex import best, found, solved
from tests.papers import numbers_of, plain, product_sum, proves, proves_none, proves_solution, proves_unsolvable, within

# A square with sides of 1, as rows.
SQUARE = [((1, 0), 1), ((0, 1), 1), ((-1, 0), 0), ((0, -1), 0)]
MILLION = 10 ** 6


def turned(row):
    """The row against a row: only together they are an equality."""
    return (tuple(-number for number in row[0]), -row[1])


def multiple(row, factor):
    return (tuple(factor * number for number in row[0]), factor * row[1])


def sum_of_rows(*rows):
    return (tuple(sum(column) for column in zip(*(a for a, _ in rows))), sum(b for _, b in rows))


def row_tuple(rng, size, most):
    return tuple(rng.randint(-most, most) for _ in range(size))


def rows_around(rng, point, many, most, slack):
    """Rows that the point is within, each by up to `slack`."""
    made = []
    for _ in range(many):
        a = row_tuple(rng, len(point), most)
        made.append((a, sum(x * y for x, y in zip(a, point)) + rng.randint(0, slack)))
    return made


def goal_over(rng, rows):
    """A goal that some rows bound."""
    chosen = rng.sample(rows, max(1, len(rows) // 4))
    return sum_of_rows(*(multiple(row, rng.randint(1, 3)) for row in chosen))[0]


class Asks(unittest.TestCase):
    def kind(self, rows, goal):
        """The word of best's answer, its paper judged."""
        answer = best(rows, goal)
        self.assertTrue(proves(rows, goal, answer), (rows, goal, answer))
        return answer[0]

    def value(self, rows, goal):
        """The best value, its paper judged."""
        answer = best(rows, goal)
        self.assertEqual(answer[0], "best", (rows, goal))
        self.assertTrue(proves(rows, goal, answer), (rows, goal, answer))
        return plain(answer[1])

    def check_found(self, rows, size):
        answer = found(rows, size)
        self.assertIs(type(answer), tuple)
        self.assertEqual(len(answer), 2)
        if answer[0] == "point":
            self.assertTrue(within(rows, numbers_of(answer[1], size)), (rows, answer))
        else:
            self.assertEqual(answer[0], "none")
            self.assertTrue(proves_none(rows, size, answer[1]), (rows, answer))
        return answer[0]

    def check_solved(self, equations, size):
        answer = solved(equations, size)
        self.assertIs(type(answer), tuple)
        self.assertEqual(len(answer), 2)
        if answer[0] == "point":
            self.assertTrue(proves_solution(equations, size, answer[1]), (equations, answer))
        else:
            self.assertEqual(answer[0], "none")
            self.assertTrue(proves_unsolvable(equations, size, answer[1]), (equations, answer))
        return answer[0]


class Interface(Asks):
    def test_each_function_is_defined_in_the_file(self):
        for name in ("best", "found", "solved"):
            self.assertEqual(getattr(simplex, name).__module__, "stayswithin.simplex")

    def test_arguments_by_name(self):
        self.assertEqual(best(goal=(1,), rows=[((1,), 4)])[:3], ("best", (4, 1), ((4, 1),)))
        self.assertEqual(found(size=1, rows=[((1,), 4), ((-1,), -4)]), ("point", ((4, 1),)))
        self.assertEqual(solved(size=1, equations=[((2,), 1)]), ("point", ((1, 2),)))

    def test_the_examples(self):
        self.assertEqual(best([((1,), 4), ((-1,), 0)], (1,)), ("best", (4, 1), ((4, 1),), ((1, 1), (0, 1))))
        self.assertEqual(best([((-1,), 0)], (2,))[0], "endless")
        self.assertEqual(solved([((2, 3), 6), ((1, 1), 4)], 2)[0], "none")


class Best(Asks):
    def test_a_best_value(self):
        self.assertEqual(self.value(SQUARE, (1, 1)), 2)
        self.assertEqual(self.value(SQUARE, (3, -2)), 3)
        self.assertEqual(self.value(SQUARE, (-1, -1)), 0)
        self.assertEqual(self.value([((2, 1), 4), ((1, 3), 7)], (3, 4)), 11)
        self.assertEqual(self.value([((3, 1), 2), ((1, 3), 1), ((-1, 0), 0), ((0, -1), 0)], (1, 1)), Fraction(3, 4))
        self.assertEqual(self.value([((3,), 2)], (1,)), Fraction(2, 3))

    def test_where_only_one_paper_is_right(self):
        self.assertEqual(best([((3,), 2)], (2,)), ("best", (4, 3), ((2, 3),), ((2, 3),)))
        self.assertEqual(
            best([((2, 1), 4), ((1, 3), 7)], (3, 4)),
            ("best", (11, 1), ((1, 1), (2, 1)), ((1, 1), (1, 1))))
        self.assertEqual(
            best([((1, 1), 1), ((-1, 1), 0), ((0, -1), 5)], (0, 3)),
            ("best", (3, 2), ((1, 2), (1, 2)), ((3, 2), (3, 2), (0, 1))))

    def test_none(self):
        self.assertEqual(self.kind([((1,), 0), ((-1,), -1)], (1,)), "none")
        self.assertEqual(self.kind([((1, 1), 1), ((-1, 0), -1), ((0, -1), -1)], (1, 2)), "none")
        self.assertEqual(self.kind([*SQUARE, ((1, 1), -1)], (0, 0)), "none")
        self.assertEqual(self.kind([((2,), 1), ((-3,), -2)], (0,)), "none")

    def test_none_comes_before_endless(self):
        self.assertEqual(self.kind([((1, 0), 0), ((-1, 0), -1)], (0, 1)), "none")
        self.assertEqual(self.kind([((0, 0), -1)], (5, 1)), "none")

    def test_endless(self):
        self.assertEqual(self.kind([((-1,), 0)], (2,)), "endless")
        self.assertEqual(self.kind([((1,), 0)], (-2,)), "endless")
        self.assertEqual(self.kind(SQUARE[:1] + SQUARE[2:], (1, 1)), "endless")
        self.assertEqual(self.kind([((1, -1), 0), ((-1, 1), 0)], (1, 0)), "endless")
        self.assertEqual(self.kind([((1, -2), 3), ((-2, 1), 3)], (1, 1)), "endless")
        # The goal is bounded along each variable alone, not along both.
        self.assertEqual(self.kind([((1, -1), 0), ((1, -2), 1)], (1, 1)), "endless")

    def test_endless_along_a_variable_that_is_in_no_row(self):
        for goal in ((0, 1), (0, -1), (-1, 5), (-1, -5), (3, -7)):
            self.assertEqual(self.kind([((1, 0), 1), ((-1, 0), 1)], goal), "endless")

    def test_a_variable_that_is_in_no_row_and_not_in_the_goal(self):
        self.assertEqual(self.value([((1, 0), 3)], (2, 0)), 6)
        self.assertEqual(self.value([((0, 1, 0), 3)], (0, 2, 0)), 6)

    def test_variables_that_the_rows_do_not_tell_apart(self):
        self.assertEqual(self.value([((1, 1), 3), ((-2, -2), 5)], (4, 4)), 12)
        self.assertEqual(self.value([((1, 1), 3), ((-2, -2), 5)], (-4, -4)), 10)
        self.assertEqual(self.kind([((1, 1), 3), ((-2, -2), 5)], (4, 5)), "endless")
        self.assertEqual(self.kind([((1, 1), -3), ((-2, -2), 5)], (4, 5)), "none")

    def test_no_rows(self):
        self.assertEqual(best([], (0, 0)), ("best", (0, 1), ((0, 1), (0, 1)), ()))
        self.assertEqual(best((), (0,)), ("best", (0, 1), ((0, 1),), ()))
        for goal in ((1,), (-1,), (0, 3), (0, -3, 0), (2, -5)):
            self.assertEqual(self.kind([], goal), "endless")

    def test_no_variables(self):
        self.assertEqual(best([], ()), ("best", (0, 1), (), ()))
        self.assertEqual(best([((), 0), ((), 5)], ()), ("best", (0, 1), (), ((0, 1), (0, 1))))
        self.assertEqual(self.kind([((), 0), ((), -5)], ()), "none")

    def test_a_row_of_zeros(self):
        for bound in (0, 1, 7):
            self.assertEqual(self.value([*SQUARE, ((0, 0), bound)], (1, 2)), 3)
            self.assertEqual(self.kind([((0, 0), bound)], (1, 2)), "endless")
            self.assertEqual(self.value([((0, 0), bound)], (0, 0)), 0)
        for bound in (-1, -7):
            self.assertEqual(self.kind([*SQUARE, ((0, 0), bound)], (1, 2)), "none")
            self.assertEqual(self.kind([((0, 0), bound)], (0, 0)), "none")

    def test_a_goal_of_zeros(self):
        self.assertEqual(self.value(SQUARE, (0, 0)), 0)
        self.assertEqual(self.value([((-3, 1), -7)], (0, 0)), 0)
        self.assertEqual(self.kind([((1,), -1), ((-1,), 0)], (0,)), "none")

    def test_a_row_twice(self):
        self.assertEqual(self.value(SQUARE + SQUARE, (1, 1)), 2)
        self.assertEqual(self.value([((3,), 2)] * 5, (1,)), Fraction(2, 3))
        self.assertEqual(self.kind([((1,), 0), ((-1,), -1)] * 3, (1,)), "none")
        self.assertEqual(self.kind([((1, -1), 0)] * 3, (1, 1)), "endless")

    def test_rows_turned_against_each_other(self):
        equal = ((1, 1), 1)
        self.assertEqual(self.value([equal, turned(equal), ((-1, 0), 0), ((0, -1), 0)], (2, 3)), 3)
        self.assertEqual(self.value([equal, turned(equal)], (5, 5)), 5)
        self.assertEqual(self.value([equal, turned(equal)], (-5, -5)), -5)
        self.assertEqual(self.kind([equal, turned(equal)], (1, 0)), "endless")
        other = ((1, -1), 4)
        self.assertEqual(self.value([equal, turned(equal), other, turned(other)], (1, 7)), Fraction(-8))
        self.assertEqual(self.kind([equal, turned(equal), ((1, 1), 2), ((-1, -1), -2)], (1, 0)), "none")

    def test_rows_with_a_common_factor(self):
        self.assertEqual(self.value([((6, 0), 6), ((0, 10), 10), ((-4, 0), 0), ((0, -15), 0)], (1, 1)), 2)
        self.assertEqual(self.value([((6,), 4)], (9,)), 6)
        self.assertEqual(self.value([((MILLION,), MILLION), ((2 * MILLION,), 3)], (1,)), Fraction(3, 2 * MILLION))

    def test_negative_bounds(self):
        self.assertEqual(self.value([((1, 0), -3), ((0, 1), -5)], (1, 2)), -13)
        self.assertEqual(self.value([((1, 1), -3), ((-1, 0), -5), ((0, -1), 20)], (0, 1)), -8)
        self.assertEqual(self.kind([((-1, 0), -5), ((0, -1), -7)], (1, -1)), "endless")
        self.assertEqual(self.kind([((-1, 0), -5), ((0, -1), -7), ((1, 1), 11)], (1, -1)), "none")
        self.assertEqual(self.value([((-1, 0), -5), ((0, -1), -7), ((1, 1), 12)], (1, -1)), -2)

    def test_where_more_rows_meet_than_there_are_variables(self):
        fan = [((at, at * at + 1), 0) for at in range(-6, 7)]
        for goal in ((0, 1), (1, 3), (-2, 7)):
            self.assertEqual(self.value(fan, goal), 0)
        self.assertEqual(self.kind(fan, (1, 0)), "endless")
        corner = [(row, 3) for row in ((1, 0), (0, 1), (1, 1), (2, 1), (1, 2))]
        self.assertEqual(self.value(corner[2:], (1, 1)), 2)
        cube = [(signs, 3) for signs in itertools.product((-1, 1), repeat=3)]
        self.assertEqual(self.value(cube, (1, 0, 0)), 3)
        self.assertEqual(self.value(cube, (5, -2, 3)), 15)

    def test_lists_and_tuples_of_rows(self):
        for goal in ((1, 1), (1, -1)):
            self.assertEqual(best(tuple(SQUARE), goal), best(SQUARE, goal))

    def test_integers_of_any_size(self):
        long = 10 ** 80 + 1
        self.assertEqual(self.value([((long, 1), long), ((-1, long), 7), ((0, -1), 0)], (0, 1)),
                         Fraction(8 * long, long * long + 1))


class SmallPrograms(Asks):
    """Programs in a box whose best value is found by looking at all points where sides cross."""

    def crossings(self, rows):
        for (a, b), (c, d) in itertools.combinations(rows, 2):
            across = a[0] * c[1] - a[1] * c[0]
            if across:
                yield Fraction(b * c[1] - d * a[1], across), Fraction(a[0] * d - c[0] * b, across)

    def test_the_best_crossing(self):
        rng = random.Random(21)
        for _ in range(300):
            rows = [((1, 0), 5), ((0, 1), 5), ((-1, 0), 5), ((0, -1), 5)]
            rows += [(row_tuple(rng, 2, 4), rng.randint(-6, 9)) for _ in range(rng.randint(0, 5))]
            rng.shuffle(rows)
            goal = row_tuple(rng, 2, 4)
            values = [product_sum(goal, point) for point in self.crossings(rows) if within(rows, point)]
            if values:
                self.assertEqual(self.value(rows, goal), max(values))
                self.assertEqual(self.check_found(rows, 2), "point")
            else:
                self.assertEqual(self.kind(rows, goal), "none")
                self.assertEqual(self.check_found(rows, 2), "none")


class AnyPrograms(Asks):
    def programs(self, seed, count):
        rng = random.Random(seed)
        for _ in range(count):
            size = rng.choice((0, 1, 1, 2, 2, 3, 4, 6))
            most = rng.choice((1, 1, 3, 10, MILLION))
            rows = rows_around(rng, row_tuple(rng, size, 3), rng.randint(0, 9), most, rng.choice((0, 0, most)))
            if rng.random() < 0.4:
                rows = [(a, rng.choice((b, rng.randint(-most, most)))) for a, b in rows]
            if rows:
                row, other = rng.choice(rows), rng.choice(rows)
                rows += rng.choice(([], [row], [turned(row)], [multiple(row, 3)], [sum_of_rows(row, other)]))
            goal = row_tuple(rng, size, most)
            if rows and rng.random() < 0.5:
                goal = goal_over(rng, rows)
            yield rng, rows, goal

    def test_the_papers(self):
        words = [self.kind(rows, goal) for _, rows, goal in self.programs(1, 600)]
        for word in ("best", "none", "endless"):
            self.assertGreater(words.count(word), 60)

    def test_the_rows_in_another_order_or_twice_or_times_an_integer(self):
        for rng, rows, goal in self.programs(2, 300):
            first = best(rows, goal)
            others = [multiple(row, rng.choice((1, 1, 2, 5))) for row in rows]
            others += rng.sample(rows, len(rows) // 3)
            rng.shuffle(others)
            second = best(others, goal)
            self.assertTrue(proves(others, goal, second))
            self.assertEqual(first[0], second[0], (rows, goal))
            if first[0] == "best":
                self.assertEqual(first[1], second[1], (rows, goal))

    def test_found(self):
        words = []
        for _, rows, goal in self.programs(3, 300):
            words.append(self.check_found(rows, len(goal)))
            self.assertEqual(words[-1] == "none", best(rows, goal)[0] == "none")
        self.assertGreater(words.count("none"), 30)

    def test_solved(self):
        words = [self.check_solved(rows, len(goal)) for _, rows, goal in self.programs(4, 600)]
        for word in ("point", "none"):
            self.assertGreater(words.count(word), 100)

    def test_with_tables_that_round_at_once(self):
        # What a rough table suggests is then often wrong: the answers must not become so.
        for bits in (1, 4, 9):
            with mock.patch.multiple(table, ROUGH_BITS=bits, NOISE_BITS=bits // 3):
                for _, rows, goal in self.programs(5 + bits, 200):
                    rough = best(rows, goal)
                    self.assertTrue(proves(rows, goal, rough), (rows, goal, rough))
                    self.check_found(rows, len(goal))
                    self.check_solved(rows, len(goal))

    def test_what_is_passed_stays_as_it_was(self):
        for _, rows, goal in self.programs(9, 60):
            before = copy.deepcopy(rows)
            best(rows, goal)
            found(rows, len(goal))
            solved(rows, len(goal))
            self.assertEqual(rows, before)


class AlwaysEnds(Asks):
    """Programs on which a simplex method without care goes round in a circle, or very slowly."""

    def with_signs(self, rows, size):
        """The rows, and rows that keep each variable from being below 0."""
        return rows + [(tuple(-(at == other) for other in range(size)), 0) for at in range(size)]

    def in_all_ways(self, rows, goal, value):
        rng = random.Random(5)
        for _ in range(40):
            self.assertEqual(self.value(rows, goal), value)
            rng.shuffle(rows)

    def test_beale(self):
        rows = self.with_signs([((1, -32, -4, 36), 0), ((1, -24, -1, 6), 0), ((0, 0, 1, 0), 1)], 4)
        self.in_all_ways(rows, (3, -80, 2, -24), 5)

    def test_marshall_and_suurballe(self):
        rows = self.with_signs([((1, -11, -5, 18), 0), ((1, -3, -1, 2), 0), ((1, 0, 0, 0), 1)], 4)
        self.in_all_ways(rows, (10, -57, -9, -24), 1)

    def test_kuhn(self):
        rows = self.with_signs([((-2, -9, 1, 9), 0), ((1, 3, -1, -6), 0), ((2, 3, -1, -12), 2)], 4)
        self.in_all_ways(rows, (2, 3, -1, -12), 2)

    def test_klee_and_minty(self):
        for size in range(1, 9):
            rows = []
            for at in range(size):
                a = [2 ** (at - other + 1) for other in range(at)] + [1] + [0] * (size - at - 1)
                rows.append((tuple(a), 5 ** (at + 1)))
            goal = tuple(2 ** (size - at - 1) for at in range(size))
            self.assertEqual(self.value(self.with_signs(rows, size), goal), 5 ** size)

    def test_best_pairs(self):
        # Each of five is paired with one of five others: at each corner many sides meet.
        size = 5
        rng = random.Random(8)
        rows = []
        for at in range(size):
            for line in (tuple(spot // size == at for spot in range(size * size)),
                         tuple(spot % size == at for spot in range(size * size))):
                row = (tuple(map(int, line)), 1)
                rows += [row, turned(row)]
        rows = self.with_signs(rows, size * size)
        goal = row_tuple(rng, size * size, 9)
        wanted = max(sum(goal[at * size + other] for at, other in enumerate(order))
                     for order in itertools.permutations(range(size)))
        self.assertEqual(self.value(rows, goal), wanted)

    def test_all_rows_meet_in_one_point(self):
        rng = random.Random(6)
        for most in (1, 2, 1000):
            for size, many in ((3, 40), (8, 60), (20, 80)):
                point = row_tuple(rng, size, 5)
                rows = rows_around(rng, point, many, most, 0)
                goal = goal_over(rng, rows)
                self.assertEqual(self.value(rows, goal), product_sum(goal, point))
                self.assertIn(self.kind(rows, row_tuple(rng, size, most)), ("best", "endless"))
                self.assertEqual(self.check_found(rows, size), "point")
                moved = [(a, b - at % 3) for at, (a, b) in enumerate(rows)]
                self.assertEqual(self.check_found(moved, size), self.check_found(moved[::-1], size))


class LargePrograms(Asks):
    def test_200_rows_and_60_variables(self):
        rng = random.Random(7)
        rows = rows_around(rng, row_tuple(rng, 60, 5), 200, 5, 9)
        self.assertEqual(self.kind(rows, goal_over(rng, rows)), "best")

    def test_200_rows_that_meet_in_one_point(self):
        rng = random.Random(8)
        point = row_tuple(rng, 60, 5)
        rows = rows_around(rng, point, 200, 1, 0)
        goal = goal_over(rng, rows)
        self.assertEqual(self.value(rows, goal), product_sum(goal, point))

    def test_integers_of_up_to_a_million(self):
        rng = random.Random(9)
        rows = rows_around(rng, row_tuple(rng, 60, 5), 200, MILLION, MILLION)
        self.assertEqual(self.kind(rows, goal_over(rng, rows)), "best")
        few = [(a[:25], b - 12 * MILLION) for a, b in rows[:90]]
        self.assertEqual(self.kind(few, few[0][0]), "none")
        self.assertEqual(self.check_found(few, 25), "none")
        few = [(a[:25], b) for a, b in rows[:22]]
        self.assertEqual(self.kind(few, rows[30][0][:25]), "endless")

    def test_many_rows_that_are_sums_of_others(self):
        rng = random.Random(10)
        for size, first, many in ((5, 12, 60), (12, 30, 120), (20, 12, 90), (40, 60, 160)):
            rows = rows_around(rng, row_tuple(rng, size, 5), first, MILLION // 4, MILLION // 4)
            goal = goal_over(rng, rows)
            value = self.value(rows, goal)
            while len(rows) < many:
                rows.append(sum_of_rows(*rng.sample(rows[:first], rng.randint(2, 4))))
            rng.shuffle(rows)
            self.assertEqual(self.value(rows, goal), value)
            self.assertEqual(self.check_found(rows, size), "point")

    def test_many_equations(self):
        rng = random.Random(11)
        for most in (2, 1000, MILLION):
            point = [rng.choice((0, 0, 1, 4)) for _ in range(40)]
            equations = rows_around(rng, point, 20, most, 0)
            self.assertEqual(self.check_solved(equations, 40), "point")
            more = equations + [sum_of_rows(*rng.sample(equations, 3)) for _ in range(60)]
            rng.shuffle(more)
            self.assertEqual(self.check_solved(more, 40), "point")
            more[-1] = (more[-1][0], more[-1][1] + 1)
            self.assertEqual(self.check_solved(more, 40), "none")
            self.assertEqual(self.check_solved(rows_around(rng, row_tuple(rng, 30, 9), 60, most, most), 30), "none")


class Found(Asks):
    def test_a_point(self):
        self.assertEqual(self.check_found(SQUARE, 2), "point")
        self.assertEqual(self.check_found([((-1, -1), -5)], 2), "point")
        self.assertEqual(found([((2,), 1), ((-2,), -1)], 1), ("point", ((1, 2),)))
        self.assertEqual(self.check_found(tuple(SQUARE), 2), "point")

    def test_none(self):
        self.assertEqual(self.check_found([((1,), 0), ((-1,), -1)], 1), "none")
        self.assertEqual(self.check_found([((2,), 1), ((-3,), -2)], 1), "none")
        self.assertEqual(self.check_found([((1, 1), 1), ((-1, 0), -1), ((0, -1), -1)], 2), "none")

    def test_no_rows_and_no_variables(self):
        self.assertEqual(found([], 0), ("point", ()))
        self.assertEqual(found([], 2), ("point", ((0, 1), (0, 1))))
        self.assertEqual(found([((), 0)], 0), ("point", ()))
        self.assertEqual(self.check_found([((), 2), ((), -1)], 0), "none")

    def test_rows_of_zeros(self):
        self.assertEqual(self.check_found([((0, 0), 0)], 2), "point")
        self.assertEqual(self.check_found([((0, 0), 3)], 2), "point")
        self.assertEqual(self.check_found([((0, 0), -3)], 2), "none")


class Solved(Asks):
    def test_a_point(self):
        self.assertEqual(solved([((2, 3), 6), ((1, 1), 2)], 2), ("point", ((0, 1), (2, 1))))
        self.assertEqual(solved([((3, 1), 2), ((1, 3), 2)], 2), ("point", ((1, 2), (1, 2))))
        self.assertEqual(self.check_solved([((1, 1, 1), 1)], 3), "point")
        self.assertEqual(self.check_solved([((1, -1), -5)], 2), "point")
        self.assertEqual(self.check_solved([((-1, 2, -3), -4)], 3), "point")

    def test_none(self):
        self.assertEqual(self.check_solved([((2, 3), 6), ((1, 1), 4)], 2), "none")
        self.assertEqual(self.check_solved([((1,), -1)], 1), "none")
        self.assertEqual(self.check_solved([((-1,), 1)], 1), "none")
        self.assertEqual(self.check_solved([((1, 2, 3), -1)], 3), "none")
        self.assertEqual(self.check_solved([((1, -1, 0), 1), ((0, 1, 1), 0), ((1, 0, 1), 0)], 3), "none")

    def test_points_with_coordinates_below_0_do_not_count(self):
        self.assertEqual(self.check_solved([((1, 1), 1), ((1, -1), 3)], 2), "none")
        self.assertEqual(self.check_solved([((1, 1), 1), ((1, -1), 1)], 2), "point")

    def test_no_equations_and_no_variables(self):
        self.assertEqual(solved([], 0), ("point", ()))
        self.assertEqual(solved((), 2), ("point", ((0, 1), (0, 1))))
        self.assertEqual(solved([((), 0), ((), 0)], 0), ("point", ()))
        for bound in (-2, 3):
            self.assertEqual(self.check_solved([((), 0), ((), bound)], 0), "none")

    def test_an_equation_of_zeros(self):
        self.assertEqual(self.check_solved([((0, 0), 0), ((1, 1), 1)], 2), "point")
        for bound in (-2, 3):
            self.assertEqual(self.check_solved([((0, 0), bound)], 2), "none")
            self.assertEqual(self.check_solved([((1, 1), 1), ((0, 0), bound)], 2), "none")

    def test_equations_that_are_twice(self):
        self.assertEqual(self.check_solved([((2, 3), 6), ((1, 1), 2)] * 3, 2), "point")
        self.assertEqual(self.check_solved([((2, 3), 6), ((1, 1), 4)] * 3, 2), "none")
        self.assertEqual(self.check_solved([((2, 3), 6), ((4, 6), 12)], 2), "point")

    def test_equations_with_all_signs_turned(self):
        equation = ((2, -3), 5)
        self.assertEqual(self.check_solved([turned(equation)], 2), "point")
        self.assertEqual(self.check_solved([equation, turned(equation)], 2), "point")
        self.assertEqual(self.check_solved([turned(equation), equation, ((1, 1), 1)], 2), "none")
        self.assertEqual(self.check_solved([((-2, -3), -6), ((-1, -1), -4)], 2), "none")

    def test_equations_that_contradict_each_other(self):
        for first, second in ((1, 2), (2, 1), (0, 1), (1, 0), (-1, 0), (0, -1), (-1, 1)):
            self.assertEqual(self.check_solved([((1, 2), first), ((1, 2), second)], 2), "none")
            self.assertEqual(self.check_solved([((1, -2), first), ((-1, 2), second - 5)], 2), "none")
        self.assertEqual(self.check_solved([((1, 1), 3), ((1, -1), 1), ((3, 1), 8)], 2), "none")
        self.assertEqual(self.check_solved([((1, 1), 3), ((1, -1), 1), ((3, 1), 7)], 2), "point")

    def test_lists_and_tuples_of_equations(self):
        rows = [((2, 3), 6), ((1, 1), 2)]
        self.assertEqual(solved(tuple(rows), 2), solved(rows, 2))


if __name__ == "__main__":
    unittest.main()
