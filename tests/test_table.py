"""Tests of stayswithin/table.py, the tables that linear programs are solved with."""

import math
import random
import unittest
from fractions import Fraction
from unittest import mock

from stayswithin import table
from stayswithin.simplex import kinds_of, lines_of
from stayswithin.table import FIRST_ROW, FREE, NOT_BELOW, Table, lowest, put_in, rounded, turned_line
from tests.test_simplex import row_tuple, rows_around


def holds(lines, values):
    """Whether all lines of a table are true for the values of its numbers."""
    return all(line[-1] * values[head] == line[0] + sum(item * values[number] for item, number in
                                                        zip(line[1:-1], lines.columns, strict=True))
               for head, line in zip(lines.heads, lines.lines, strict=True))


class Lines(unittest.TestCase):
    def test_turned_line(self):
        # 2 h = 1 + 3 x - 4 y, so 3 x = -1 + 2 h + 4 y and 4 y = 1 + 3 x - 2 h.
        self.assertEqual(turned_line([1, 3, -4, 2], 1), [-1, 2, 4, 3])
        self.assertEqual(turned_line([1, 3, -4, 2], 2), [1, 3, -2, 4])

    def test_put_in(self):
        # 2 h = 1 + 3 x - 4 y, and 6 x = 5 + y: 4 h = 2 + 5 + y - 8 y.
        self.assertEqual(put_in([1, 3, -4, 2], [5, 1, 1, 6], 1), [7, 1, -7, 4])

    def test_lowest(self):
        self.assertEqual(lowest([4, -6, 0, 2]), [2, -3, 0, 1])
        self.assertEqual(lowest([4, -6, 0, 3]), [4, -6, 0, 3])
        self.assertEqual(lowest([0, 0, 5]), [0, 0, 1])

    def test_rounded(self):
        with mock.patch.object(table, "NOISE_BITS", 2):
            self.assertEqual(rounded([100, -100, 33, 15, 16, 7, 31], 3), [13, -12, 4, 0, 0, 0, 4])
            self.assertEqual(rounded([100, 3, -4, 1], 0), [100, 0, -4, 1])
            self.assertEqual(rounded([100, 1, -1, 1], -1), [100, 0, 0, 1])
            self.assertEqual(rounded([1000, 1, 0, 1], 6), [16, 0, 0, 1])


class Turning(unittest.TestCase):
    def started(self, rng, size, many, rough):
        rows = rows_around(rng, row_tuple(rng, size, 3), many, 9, 5)
        goal = row_tuple(rng, size, 9)
        lines = Table(lines_of(rows, goal), kinds_of(rows, size, FREE, NOT_BELOW), rough)
        values = [Fraction(rng.randint(-9, 9), rng.randint(1, 5)) for _ in range(size)]
        values += [sum(x * y for x, y in zip(goal, values)), 0]
        values += [b - sum(x * y for x, y in zip(a, values)) for a, b in rows]
        return lines, values

    def test_the_lines_stay_true_and_in_lowest_terms(self):
        rng = random.Random(51)
        for _ in range(30):
            lines, values = self.started(rng, 4, 7, False)
            self.assertTrue(holds(lines, values))
            for turns in range(1, 12):
                at, column = rng.choice([(at, column) for at in range(FIRST_ROW, 9) for column in range(1, 5)
                                         if lines.lines[at][column] != 0])
                head, number = lines.heads[at], lines.columns[column - 1]
                lines.turn(at, column)
                self.assertEqual((lines.heads[at], lines.columns[column - 1]), (number, head))
                self.assertTrue(holds(lines, values))
                self.assertTrue(all(line[-1] > 0 and math.gcd(*line) == 1 for line in lines.lines))
                self.assertEqual(lines.turns, turns)
                self.assertTrue(lines.exact)
                self.assertFalse(lines.is_spent())

    def test_a_rough_table_is_exact_until_it_rounds(self):
        rng = random.Random(52)
        rough, values = self.started(rng, 4, 7, True)
        for at in range(FIRST_ROW, FIRST_ROW + 4):
            rough.turn(at, at - 1)
        self.assertTrue(rough.exact)
        self.assertTrue(holds(rough, values))
        with mock.patch.multiple(table, ROUGH_BITS=6, NOISE_BITS=2):
            rough.turn(FIRST_ROW + 4, 1)
            self.assertFalse(rough.exact)
            others = [line for at, line in enumerate(rough.lines) if at != FIRST_ROW + 4]
            self.assertTrue(all(max(map(abs, line)) <= 2 ** 6 and line[-1] > 0 for line in others))

    def test_a_rough_table_is_spent_in_the_end(self):
        rough, _ = self.started(random.Random(53), 3, 5, True)
        rough.turns = 10 ** 6
        self.assertFalse(rough.is_spent())
        rough.exact = False
        self.assertTrue(rough.is_spent())
        rough.turns = table.ROUGH_TURNS * 10
        self.assertFalse(rough.is_spent())
        rough.turns += 1
        self.assertTrue(rough.is_spent())


if __name__ == "__main__":
    unittest.main()
