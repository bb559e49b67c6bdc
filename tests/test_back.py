"""Tests of stayswithin/back.py (point 5.1)."""

import copy
import itertools
import math
import random
import unittest
from fractions import Fraction

from stayswithin import back
from stayswithin.back import drawn_back
from stayswithin.limits import meets
from stayswithin.machine import Machine
from tests.odd import LONG
from tests.papers import point

# From (x, y) with the disturbance (v, w) to ((x + 2 y + v) / 2, (3 x + 4 y + w) / 2).
TWO = Machine(((1, 2), (3, 4)), ((), ()), ((1, 0), (0, 1)), 2, (), ((-1, 2), (-3, 1)))
# From x to 2 x / 3, and from x to (3 x + w) / 2.
CALM = Machine(((2,),), ((),), ((),), 3, (), ())
GROWING = Machine(((3,),), ((),), ((1,),), 2, (), ((-1, 1),))


class Interface(unittest.TestCase):
    def test_the_function_is_defined_in_the_file(self):
        self.assertEqual(back.drawn_back.__module__, "stayswithin.back")

    def test_arguments_by_name(self):
        self.assertEqual(drawn_back(row=((1,), 2), machine=GROWING), ((1,), 1))


class DrawnBack(unittest.TestCase):
    def test_with_disturbances(self):
        # 2 * 5 less 2 for v = 2 and less 3 for w = -3.
        self.assertEqual(drawn_back(TWO, ((1, -1), 5)), ((-2, -2), 5))
        # 2 * 5 less 1 for v = -1 and less 1 for w = 1.
        self.assertEqual(drawn_back(TWO, ((-1, 1), 5)), ((1, 1), 4))
        # 2 * -5 less 4 for v = 2 and less 5 for w = 1, divided by 1.
        self.assertEqual(drawn_back(TWO, ((2, 5), -5)), ((17, 24), -19))
        self.assertEqual(drawn_back(GROWING, ((1,), 4)), ((3,), 7))
        self.assertEqual(drawn_back(GROWING, ((-1,), 4)), ((-3,), 7))
        self.assertEqual(drawn_back(GROWING, ((3,), 3)), ((3,), 1))

    def test_without_disturbances(self):
        self.assertEqual(drawn_back(CALM, ((1,), 5)), ((2,), 15))
        self.assertEqual(drawn_back(CALM, ((-1,), 5)), ((-2,), 15))
        turn = Machine(((0, 1, 0), (0, 0, 1), (-1, 0, 0)), ((), (), ()), ((), (), ()), 1, (), ())
        self.assertEqual(drawn_back(turn, ((1, 2, 3), 4)), ((-3, 1, 2), 4))

    def test_a_number_0_for_a_disturbance(self):
        # 2 * 3 less 2 for v = 2, whatever w is.
        self.assertEqual(drawn_back(TWO, ((1, 0), 3)), ((1, 2), 4))
        self.assertEqual(drawn_back(TWO, ((0, 1), 3)), ((3, 4), 5))
        still = Machine(((1,),), ((),), ((0, 0),), 1, (), ((-20, -3), (4, 20)))
        self.assertEqual(drawn_back(still, ((1,), 3)), ((1,), 3))

    def test_limits_of_disturbances_on_one_side_of_0(self):
        above = Machine(((1,),), ((),), ((1,),), 1, (), ((3, 7),))
        self.assertEqual(drawn_back(above, ((1,), 10)), ((1,), 3))
        self.assertEqual(drawn_back(above, ((-1,), 10)), ((-1,), 13))
        below = Machine(((1,),), ((),), ((1,),), 1, (), ((-7, -3),))
        self.assertEqual(drawn_back(below, ((1,), 10)), ((1,), 13))
        self.assertEqual(drawn_back(below, ((-1,), 10)), ((-1,), 3))
        fixed = Machine(((1,),), ((),), ((-2,),), 1, (), ((5, 5),))
        self.assertEqual(drawn_back(fixed, ((1,), 3)), ((1,), 13))

    def test_divided_by_the_greatest_common_divisor(self):
        self.assertEqual(drawn_back(CALM, ((3,), 2)), ((1,), 1))
        self.assertEqual(drawn_back(CALM, ((3,), -2)), ((1,), -1))
        self.assertEqual(drawn_back(CALM, ((-6,), 4)), ((-1,), 1))
        self.assertEqual(drawn_back(CALM, ((5,), 0)), ((1,), 0))
        self.assertEqual(drawn_back(CALM, ((-5,), 0)), ((-1,), 0))
        self.assertEqual(drawn_back(TWO, ((4, -4), 20)), ((-2, -2), 5))

    def test_the_bound_is_among_what_is_divided(self):
        # 6 and 9 share 3, 6 and 15 too; 6 and 1 share nothing, and 6 and 2 share 2 alone.
        self.assertEqual(drawn_back(CALM, ((3,), 3)), ((2,), 3))
        self.assertEqual(drawn_back(CALM, ((3,), 5)), ((2,), 5))
        sure = Machine(((2,),), ((),), ((1,),), 1, (), ((1, 1),))
        self.assertEqual(drawn_back(sure, ((3,), 4)), ((6,), 1))
        self.assertEqual(drawn_back(sure, ((3,), 5)), ((3,), 1))

    def test_a_row_of_zeros(self):
        gone = Machine(((0,),), ((),), ((1,),), 2, (), ((-1, 3),))
        self.assertEqual(drawn_back(gone, ((1,), 4)), ((0,), 1))
        self.assertEqual(drawn_back(gone, ((2,), 3)), ((0,), 0))
        self.assertEqual(drawn_back(gone, ((2,), 1)), ((0,), -1))
        for bound, wanted in ((0, 0), (7, 1), (1, 1), (-1, -1), (-9, -1)):
            self.assertEqual(drawn_back(TWO, ((0, 0), bound)), ((0, 0), wanted))

    def test_integers_of_any_size(self):
        # 3 times LONG, and 4 times LONG less 1 for the disturbance's 1 times LONG.
        self.assertEqual(drawn_back(GROWING, ((LONG,), 2 * LONG)), ((1,), 1))
        self.assertEqual(drawn_back(GROWING, ((LONG,), 2 * LONG + 1)), ((3 * LONG,), 3 * LONG + 2))

    def test_the_kinds(self):
        for machine, row in ((TWO, ((1, -1), 5)), (TWO, ((0, 0), 0)), (CALM, ((3,), 2))):
            told = drawn_back(machine, row)
            self.assertIs(type(told), tuple)
            self.assertIs(type(told[0]), tuple)
            self.assertEqual({type(number) for number in (*told[0], told[1])}, {int})

    def test_a_state_meets_it_exactly_if_all_next_states_meet_the_row(self):
        rng = random.Random(71)
        seen = []
        for _ in range(300):
            n, p = rng.randint(1, 3), rng.randint(0, 2)
            matrix = [tuple(tuple(rng.randint(-4, 4) for _ in range(width)) for _ in range(n)) for width in (n, p)]
            limits = tuple(tuple(sorted((rng.randint(-3, 3), rng.randint(-3, 3)))) for _ in range(p))
            machine = Machine(matrix[0], ((),) * n, matrix[1], rng.randint(1, 5), (), limits)
            row = (tuple(rng.randint(-3, 3) for _ in range(n)), rng.randint(-4, 9))
            told = drawn_back(machine, row)
            self.assertLessEqual(math.gcd(*told[0], told[1]), 1)
            for _ in range(5):
                state = point(*(Fraction(rng.randint(-6, 6), rng.randint(1, 3)) for _ in range(n)))
                wanted = all(meets(row, machine.step(state, (), point(*corner)))
                             for corner in itertools.product(*limits))
                self.assertIs(meets(told, state), wanted)
                seen.append(wanted)
        self.assertGreater(min(seen.count(True), seen.count(False)), 200)

    def test_what_is_passed_stays_as_it_was(self):
        row = ((4, -4), 20)
        before = copy.deepcopy((row, vars(TWO)))
        drawn_back(TWO, row)
        self.assertEqual((row, vars(TWO)), before)


if __name__ == "__main__":
    unittest.main()
