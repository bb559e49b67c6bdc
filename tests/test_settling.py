"""Tests of stayswithin/settling.py, which turns tables until they show the answer of a linear program."""

import random
import unittest
from fractions import Fraction
from unittest import mock

from stayswithin import settling
from stayswithin.settling import (
    cheapest_column, clear_heads, deepest_line, depth_of, first_line, free_columns, settled, steepest_column)
from stayswithin.simplex import best, kinds_of, lines_of, solved
from stayswithin.table import COST, FIRST_ROW, FREE, GOAL, NOT_BELOW, NOUGHT, Table
from tests.test_simplex import goal_over, row_tuple, rows_around


def made(lines, kinds):
    """A table of a goal line, a cost of 0 and further lines."""
    width = len(lines[0]) - 2
    return Table([lines[0], [0] * (width + 1) + [1], *lines[1:]], kinds, False)


def tiny_numbers(order):
    """For each of the numbers a tiny one, each far tinier than the one before it."""
    return {number: Fraction(1, 10 ** (60 * at)) for at, number in enumerate(order, 2)}


class Choices(unittest.TestCase):
    def test_the_depth_of_a_line(self):
        self.assertEqual(depth_of([-6, 2, -3, 5]), 2 << 64)
        self.assertEqual(depth_of([-6, 2, 1, 5]), 3 << 64)
        self.assertEqual(depth_of([-1, -2, 3, 5]), (1 << 64) // 3)
        self.assertEqual(depth_of([-7, 0, 0, 5]), 7 << 64)
        self.assertEqual(depth_of([-7, 5]), 7 << 64)

    def test_the_deepest_line(self):
        kinds = [NOT_BELOW] * 2 + [FREE] * 2 + [NOT_BELOW] * 5
        lines = made([[-9, 1, 1, 1], [0, 1, 1, 1], [-6, 3, 1, 1], [-5, 2, 1, 1], [-7, 3, 1, 1], [4, 1, 1, 1]], kinds)
        self.assertEqual(deepest_line(lines), FIRST_ROW + 2)
        for kind in (FREE, NOUGHT):
            kinds[4 + 2] = kind
            self.assertEqual(deepest_line(lines), FIRST_ROW + 3)
        self.assertIsNone(deepest_line(made([[-9, 1, 1], [0, 1, 1], [4, 1, 1]], [NOT_BELOW, FREE, FREE, *kinds[:2]])))

    def test_the_steepest_column(self):
        kinds = [NOT_BELOW] * 4 + [FREE] * 2
        self.assertEqual(steepest_column(made([[7, 1, 3, 2, 3, 9]], kinds)), 2)
        self.assertEqual(steepest_column(made([[7, -8, 0, 1, -1, 9]], kinds)), 3)
        self.assertIsNone(steepest_column(made([[7, -8, 0, 0, -1, 9]], kinds)))
        kinds[3] = FREE
        self.assertEqual(steepest_column(made([[7, 1, 3, 2, -1, 9]], kinds)), 4)
        self.assertEqual(steepest_column(made([[7, 1, 3, 2, 1, 9]], kinds)), 4)
        self.assertEqual(steepest_column(made([[7, 1, 3, 2, 0, 9]], kinds)), 2)
        kinds[3] = NOUGHT
        self.assertEqual(steepest_column(made([[7, 1, 3, 2, 5, 9]], kinds)), 2)

    def test_free_columns_become_heads_by_short_lines(self):
        kinds = [FREE] * 3 + [FREE] * 2 + [NOT_BELOW] * 3
        lines = made([[0, 1, 1, 1, 1], [5, 2, 1, 1, 1], [5, 4, 0, 1, 1], [5, 3, 0, 1, 1]], kinds)
        free_columns(lines, [False] * 8)
        self.assertEqual(lines.heads, [3, 4, 1, 2, 0])
        self.assertEqual(lines.columns, [7, 5, 6])

    def test_free_columns_by_wanted_lines_first(self):
        kinds = [FREE] * 2 + [FREE] * 2 + [NOT_BELOW] * 4
        lines = made([[0, 1, 1, 1], [1, 1, 0, 1], [0, 1, 9, 1], [1, 0, 1, 1], [0, 9, 1, 1]], kinds)
        free_columns(lines, [False] * 5 + [True, False, True])
        self.assertEqual(sorted(lines.columns), [5, 7])
        self.assertEqual(sorted(lines.heads), [0, 1, 2, 3, 4, 6])

    def test_a_free_column_of_zeros_stays(self):
        kinds = [FREE] * 2 + [FREE] * 2 + [NOT_BELOW]
        lines = made([[0, 1, 1, 1], [1, 3, 0, 1]], kinds)
        free_columns(lines, [False] * 5)
        self.assertEqual((lines.columns, lines.heads), ([4, 1], [2, 3, 0]))

    def test_heads_that_are_0_alone_become_columns(self):
        kinds = [NOT_BELOW] * 3 + [FREE] * 2 + [NOUGHT] * 2
        lines = made([[0, 0, 0, 0, 1], [5, 9, 2, 4, 1], [5, 9, -2, 3, 1]], kinds)
        self.assertIsNone(clear_heads(lines, [False] * 7))
        self.assertEqual((lines.columns, lines.heads), ([0, 5, 6], [3, 4, 1, 2]))
        lines = made([[0, 0, 0, 0, 1], [5, 9, 2, 4, 1], [5, 9, -2, 3, 1]], kinds)
        self.assertIsNone(clear_heads(lines, [False, True] + [False] * 5))
        self.assertEqual(sorted(lines.columns), [1, 5, 6])

    def test_a_line_that_cannot_hold(self):
        kinds = [NOT_BELOW] * 2 + [FREE] * 2 + [NOUGHT] * 3
        for bound in (-3, 4):
            lines = made([[0, 0, 0, 1], [1, 1, 2, 1], [2, 2, 4, 1], [bound, 2, 4, 1]], kinds)
            self.assertEqual(clear_heads(lines, [False] * 7), FIRST_ROW + 2)


class TinyNumbers(unittest.TestCase):
    """Each choice of raise_goal and lift_heads is the only good one if the tiny numbers are really there."""

    def setUp(self):
        self.values = []
        self.choices = 0
        self.ties = 0

    def only_least(self, ratios):
        self.choices += 1
        least = min(ratios.values(), default=None)
        chosen = [place for place, ratio in ratios.items() if ratio == least]
        near = [place for place, ratio in ratios.items() if ratio - least < Fraction(1, 10 ** 30)]
        self.ties += len(near) > 1
        self.assertLessEqual(len(chosen), 1)
        return chosen[0] if chosen else None

    def checked_line(self, lines, column, order):
        tiny = tiny_numbers(order)
        ratios = {}
        for at, line in enumerate(lines.lines):
            if lines.head_kind(at) == NOT_BELOW:
                others = sum(item * tiny.get(number, 0) for item, number in zip(line[1:-1], lines.columns))
                value = tiny.get(lines.heads[at], 0) + Fraction(line[0] - others) / line[-1]
                self.assertGreater(value, 0)
                if line[column] < 0:
                    ratios[at] = value * line[-1] / -line[column]
        at = first_line(lines, column, order)
        self.assertEqual(at, self.only_least(ratios))
        return at

    def checked_column(self, lines, at, order):
        cost = lines.lines[COST]
        total = -sum(self.values[number] for number in order if lines.kinds[number] == NOT_BELOW)
        shown = cost[0] + sum(item * self.values[number] for item, number in zip(cost[1:-1], lines.columns))
        self.assertEqual(cost[-1] * total, shown)
        tiny = tiny_numbers(order)
        ratios = {}
        for column, number in enumerate(lines.columns, 1):
            if lines.kinds[number] == NOT_BELOW:
                self.assertLessEqual(cost[column], 0)
                price = Fraction(-cost[column], cost[-1]) + tiny.get(number, 0)
                price += sum(tiny.get(head, 0) * Fraction(line[column], line[-1])
                             for head, line in zip(lines.heads, lines.lines))
                self.assertGreater(price, 0)
                if lines.lines[at][column] > 0:
                    ratios[column] = price / lines.lines[at][column]
        column = cheapest_column(lines, at, order)
        self.assertEqual(column, self.only_least(ratios))
        return column

    def watch(self, program, rows, last):
        """Run best or solved, with each choice checked."""
        rng = random.Random(len(rows))
        size = len(rows[0][0])
        self.values = [Fraction(rng.randint(-9, 9), rng.randint(1, 3)) for _ in range(size)] + [0, 0]
        self.values += [b - sum(x * y for x, y in zip(a, self.values)) for a, b in rows]
        with mock.patch.multiple(settling, first_line=self.checked_line, cheapest_column=self.checked_column):
            return program(rows, last)[0]

    def test_where_many_rows_meet_in_one_point(self):
        rng = random.Random(61)
        words = set()
        for _ in range(60):
            size = rng.randint(2, 6)
            rows = rows_around(rng, row_tuple(rng, size, 3), rng.randint(4, 14), rng.randint(1, 2), 0)
            words.add(self.watch(best, rows, goal_over(rng, rows)))
            words.add(self.watch(best, rows, row_tuple(rng, size, 2)))
        self.assertEqual(words, {"best", "endless"})
        self.assertGreater(self.ties, 50)

    def test_where_many_columns_cost_as_much(self):
        rng = random.Random(62)
        words = set()
        for _ in range(150):
            size = rng.randint(2, 6)
            rows = rows_around(rng, row_tuple(rng, size, 2), rng.randint(4, 14), 1, 1)
            words.add(self.watch(best, rows, (0,) * size))
            words.add(self.watch(best, [(a, b - (rng.random() < 0.2)) for a, b in rows], (0,) * size))
        self.assertEqual(words, {"best", "none"})
        self.assertGreater(self.ties, 50)

    def test_equations(self):
        rng = random.Random(63)
        words = set()
        for _ in range(150):
            size = rng.randint(3, 9)
            point = [rng.choice((0, 0, 1, 2)) for _ in range(size)]
            rows = rows_around(rng, point, rng.randint(2, 5), 1, 0)
            words.add(self.watch(solved, rows, size))
            words.add(self.watch(solved, [(a, b - (rng.random() < 0.3)) for a, b in rows], size))
        self.assertEqual(words, {"point", "none"})
        self.assertGreater(self.ties, 20)


class Settled(unittest.TestCase):
    def settle(self, rows, goal):
        return settled(lines_of(rows, goal), kinds_of(rows, len(goal), FREE, NOT_BELOW))

    def test_the_place_of_a_best_value_is_the_goal(self):
        lines, word, place = self.settle([((2,), 3)], (1,))
        self.assertEqual((word, place), ("best", GOAL))
        self.assertEqual(lines.lines[place], [3, -1, 2])

    def test_the_place_of_none_is_a_line_that_forbids_it(self):
        lines, word, place = self.settle([((2,), 3), ((-1,), -2)], (1,))
        self.assertEqual(word, "none")
        self.assertGreaterEqual(place, FIRST_ROW)
        self.assertLess(lines.lines[place][0], 0)
        self.assertLessEqual(max(lines.lines[place][1:-1]), 0)

    def test_the_place_of_endless_is_a_column(self):
        lines, word, place = self.settle([((-2, 0), 3), ((0, 1), 0)], (1, 1))
        self.assertEqual(word, "endless")
        self.assertGreater(lines.lines[GOAL][place], 0)
        self.assertGreaterEqual(min(line[place] for line in lines.lines[FIRST_ROW:]), 0)

    def test_what_is_passed_stays_as_it_was(self):
        rows, goal = [((2, 1), 3), ((-1, 4), -2)], (1, 1)
        lines, kinds = lines_of(rows, goal), kinds_of(rows, 2, FREE, NOT_BELOW)
        settled(lines, kinds)
        self.assertEqual(lines, lines_of(rows, goal))
        self.assertEqual(kinds, [FREE] * 4 + [NOT_BELOW] * 2)

    def test_few_turns_where_many_rows_meet_in_one_point(self):
        rng = random.Random(54)
        for most, size, many in ((1, 20, 80), (1000, 20, 80), (1, 40, 120), (5, 40, 120)):
            rows = rows_around(rng, row_tuple(rng, size, 5), many, most, 0)
            lines, word, _ = self.settle(rows, goal_over(rng, rows))
            self.assertEqual(word, "best")
            self.assertLess(lines.turns, 2 * many)

    def test_no_table_comes_twice(self):
        rng = random.Random(55)
        turn = Table.turn
        seen = []

        def watched(lines, at, column):
            turn(lines, at, column)
            seen.append(tuple(sorted(lines.columns)))

        def checked(phase):
            def run(lines):
                seen[:] = [tuple(sorted(lines.columns))]
                answer = phase(lines)
                self.assertEqual(len(set(seen)), len(seen))
                return answer
            return run

        with mock.patch.object(Table, "turn", watched), mock.patch.multiple(
                settling, lift_heads=checked(settling.lift_heads), raise_goal=checked(settling.raise_goal)):
            for _ in range(100):
                rows = rows_around(rng, row_tuple(rng, rng.randint(2, 6), 2), 14, 1, 0)
                goal = goal_over(rng, rows)
                best(rows, goal)
                best([(a, b - (rng.random() < 0.05)) for a, b in rows], goal)

    def test_a_rough_table_spares_the_exact_one_its_steps(self):
        rng = random.Random(56)
        rows = rows_around(rng, row_tuple(rng, 30, 5), 80, 10 ** 6, 10 ** 6)
        lines, word, _ = self.settle(rows, goal_over(rng, rows))
        self.assertEqual(word, "best")
        self.assertFalse(lines.rough)
        self.assertEqual(lines.turns, 30)
        few = [(a, b - 20 * 10 ** 6) for a, b in rows]
        lines, word, _ = self.settle(few, rows[0][0])
        self.assertEqual((word, lines.rough, lines.turns), ("none", False, 30))
        equations = rows_around(rng, [rng.choice((0, 0, 1, 4)) for _ in range(40)], 20, 10 ** 6, 0)
        lines, word, _ = settled(lines_of(equations, (0,) * 40), kinds_of(equations, 40, NOT_BELOW, NOUGHT))
        self.assertEqual((word, lines.rough, lines.turns), ("best", False, 20))

    def test_a_small_program_needs_one_table(self):
        lines, _, _ = self.settle([((2, 1), 3), ((-1, 4), 2)], (1, 4))
        self.assertTrue(lines.rough)
        self.assertTrue(lines.exact)


if __name__ == "__main__":
    unittest.main()
