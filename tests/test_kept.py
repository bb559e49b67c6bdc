"""Tests of stayswithin/kept.py (points 6.1 to 6.5)."""

import copy
import itertools
import random
import unittest
from fractions import Fraction

from stayswithin import kept as module
from stayswithin.kept import equations_of, judge_kept, judge_lost, kept
from stayswithin.machine import Machine
from tests.bodies_kept import corners, interval_is_kept, own_equations, proves_kept
from tests.odd import LONG
from tests.papers import point, proves_unsolvable

# The machine of the introduction: from x to 2 x + u + w.
DOUBLE = Machine(((2,),), ((1,),), ((1,),), 1, ((-2, 2),), ((-1, 1),))
ONES = [point(-1), point(1)]
THREES = [point(-3), point(3)]
LIMITS = [((1,), 5), ((-1,), 5)]
# From x to x / 2 without inputs and disturbances, from x to (x + w) / 2, and from x to 3 x + u.
HALF = Machine(((1,),), ((),), ((),), 2, (), ())
PUSHED = Machine(((1,),), ((),), ((1,),), 2, (), ((-1, 1),))
STEERED = Machine(((3,),), ((1,),), ((),), 1, ((-4, 4),), ())
# Two states, inputs and disturbances.
PLANE = Machine(((4, 1), (-1, 4)), ((1, 0), (0, 2)), ((1, 0), (1, 1)), 5, ((-3, 2), (-1, 1)), ((-1, 1), (0, 1)))
SQUARE = [point(-2, -2), point(-2, 2), point(2, -2), point(2, 2)]
BOX = [((1, 0), 2), ((0, 1), 2), ((-1, 0), 2), ((0, -1), 2)]


def random_machine(rng, n):
    m, p = rng.randint(0, 2), rng.randint(0, 2)
    a, b, e = (tuple(tuple(rng.randint(-5, 5) for _ in range(width)) for _ in range(n)) for width in (n, m, p))
    pairs = [tuple(tuple(sorted((rng.randint(-4, 4), rng.randint(-4, 4)))) for _ in range(width)) for width in (m, p)]
    return Machine(a, b, e, rng.randint(1, 12), *pairs)


def random_points(rng, n, many, most):
    return [point(*(Fraction(rng.randint(-most, most), rng.randint(1, 4)) for _ in range(n))) for _ in range(many)]


class Interface(unittest.TestCase):
    def test_each_function_is_defined_in_the_file(self):
        for name in ("equations_of", "kept", "judge_kept", "judge_lost"):
            self.assertEqual(getattr(module, name).__module__, "stayswithin.kept")

    def test_arguments_by_name(self):
        self.assertEqual(equations_of(number=0, points=[point(0)], machine=HALF), ([((1,), 1), ((0,), 0)], 1))
        self.assertEqual(kept(points=[point(0)], machine=HALF), ("kept", [()], [[point(1)]]))
        paper = ([()], [[point(1)]])
        self.assertIs(judge_kept(paper=paper, points=[point(0)], limits=[((1,), 0)], machine=HALF), True)
        self.assertIs(judge_lost(paper=(0, point(0, 1)), points=[point(1)], machine=HALF), False)

    def test_the_examples(self):
        self.assertEqual(kept(DOUBLE, THREES)[:2], ("lost", 0))
        self.assertEqual(kept(DOUBLE, ONES)[0], "kept")


class EquationsOf(unittest.TestCase):
    def check(self, machine, points, number, equations, size):
        for kind in (list, tuple):
            self.assertEqual(equations_of(machine, kind(points), number), (equations, size))
        self.assertEqual(own_equations(machine, points, number), (equations, size))

    def test_no_inputs_and_no_disturbances(self):
        # 2 times the mix is x.
        self.check(HALF, ONES, 0, [((1, 1), 1), ((-2, 2), -1)], 2)
        self.check(HALF, ONES, 1, [((1, 1), 1), ((-2, 2), 1)], 2)
        self.check(HALF, [point(5)], 0, [((1,), 1), ((10,), 5)], 1)

    def test_no_inputs(self):
        # A weight for each corner if w is -1, then if w is 1; 2 times the mix is x + w.
        self.check(PUSHED, THREES, 1,
                   [((1, 1, 0, 0), 1), ((-6, 6, 0, 0), 2), ((0, 0, 1, 1), 1), ((0, 0, -6, 6), 4)], 4)

    def test_one_input_and_no_disturbances(self):
        # The input above -4 and below 4; the mix less the first one is 3 x - 4.
        self.check(STEERED, ONES, 0, [((1, 1, 0, 0), 8), ((0, 0, 1, 1), 1), ((-1, 0, -1, 1), -7)], 4)
        self.check(STEERED, ONES, 1, [((1, 1, 0, 0), 8), ((0, 0, 1, 1), 1), ((-1, 0, -1, 1), -1)], 4)

    def test_one_input_and_one_disturbance(self):
        # The mix less the input above -2 is 2 x - 2 + w.
        self.check(DOUBLE, ONES, 0, [
            ((1, 1, 0, 0, 0, 0), 4), ((0, 0, 1, 1, 0, 0), 1), ((-1, 0, -1, 1, 0, 0), -5),
            ((0, 0, 0, 0, 1, 1), 1), ((-1, 0, 0, 0, -1, 1), -3)], 6)

    def test_a_disturbance_with_one_value(self):
        sure = Machine(((2,),), ((-3,),), ((5,),), 7, ((1, 1),), ((2, 2),))
        self.check(sure, [point(1), point(4)], 1,
                   [((1, 1, 0, 0), 0), ((0, 0, 1, 1), 1), ((3, 0, 7, 28), 15)], 4)

    def test_two_inputs_two_disturbances_and_two_states(self):
        points = [point(1, 0), point("1/2", -1), point(0, "2/3")]
        # The inputs are -3 and -1 at least: then 5 times the next state is 4 x + y - 3 + v and -x + 4 y - 2 + v + w.
        none = (0,) * 3
        ends = [(-1, 0), (-1, 1), (1, 0), (1, 1)]
        wanted = [((1, 0, 1, 0) + none * 4, 5), ((0, 1, 0, 1) + none * 4, 2)]
        for at, (v, w) in enumerate(ends):
            before, behind = none * at, none * (3 - at)
            wanted.append(((0, 0, 0, 0) + before + (1, 1, 1) + behind, 1))
            # 5/2 needs 2 times the numbers, 10/3 and -13/2 need 6 times.
            wanted.append(((-2, 0, 0, 0) + before + (10, 5, 0) + behind, -4 + 2 * v))
            wanted.append(((0, -12, 0, 0) + before + (0, -30, 20) + behind, -39 + 6 * (v + w)))
        self.check(PLANE, points, 1, wanted, 16)

    def test_each_equation_times_the_least_positive_integer_and_not_divided(self):
        even = Machine(((4,),), ((2,),), ((6,),), 2, ((-2, 2),), ((-2, 2),))
        self.check(even, ONES, 1, [
            ((1, 1, 0, 0, 0, 0), 4), ((0, 0, 1, 1, 0, 0), 1), ((-2, 0, -2, 2, 0, 0), -12),
            ((0, 0, 0, 0, 1, 1), 1), ((-2, 0, 0, 0, -2, 2), 12)], 6)
        # 1/2 in the bound alone; then 2/3, 1/2 and the bound 1/3.
        self.check(HALF, [point("1/2"), point(1)], 0, [((1, 1), 1), ((2, 4), 1)], 2)
        self.check(HALF, [point("1/3"), point("1/4")], 0, [((1, 1), 1), ((4, 3), 2)], 2)
        self.check(HALF, [point(Fraction(1, LONG))], 0, [((1,), 1), ((2,), 1)], 1)

    def test_three_states(self):
        machine = Machine(((0, 1, 0), (0, 0, 1), (1, 0, 0)), ((), (), ()), ((), (), ()), 3, (), ())
        self.check(machine, [point(1, 2, 3), point(4, 5, 6)], 0,
                   [((1, 1), 1), ((3, 12), 2), ((6, 15), 3), ((9, 18), 1)], 2)

    def test_the_corner_that_is_meant(self):
        self.assertEqual(equations_of(STEERED, [point(5), point(6)], 1)[0][-1], ((-1, 0, 5, 6), 14))
        self.assertEqual(equations_of(STEERED, [point(5), point(6)], 0)[0][-1], ((-1, 0, 5, 6), 11))

    def test_any_machines(self):
        rng = random.Random(91)
        for _ in range(100):
            n = rng.randint(1, 3)
            machine = random_machine(rng, n)
            points = random_points(rng, n, rng.randint(1, 4), 9)
            number = rng.randrange(len(points))
            equations, size = equations_of(machine, points, number)
            self.assertEqual((equations, size), own_equations(machine, points, number))
            self.assertEqual(size, 2 * machine.inputs + len(points) * len(corners(machine.disturbance_limits)))
            self.assertEqual(len(equations),
                             machine.inputs + (1 + n) * len(corners(machine.disturbance_limits)))
            self.assertEqual({type(row) for row in equations} | {type(row[0]) for row in equations}, {tuple})


class Asks(unittest.TestCase):
    def is_kept(self, machine, points):
        """None if the body is kept, otherwise the index of the corner; the papers are judged by sums."""
        answer = kept(machine, points)
        self.assertIs(type(answer), tuple)
        self.assertEqual(len(answer), 3)
        self.assertEqual(kept(machine, tuple(points))[0], answer[0])
        if answer[0] == "kept":
            self.assertTrue(proves_kept(machine, [], points, answer[1:]), (machine, points, answer))
            self.assertIs(judge_kept(machine, [], points, answer[1:]), True)
            return None
        self.assertEqual(answer[0], "lost")
        equations, size = own_equations(machine, points, answer[1])
        self.assertTrue(proves_unsolvable(equations, size, answer[2]))
        self.assertIs(judge_lost(machine, points, answer[1:]), True)
        return answer[1]


class Kept(Asks):
    def test_bodies_that_are_kept_and_lost(self):
        self.assertIsNone(self.is_kept(DOUBLE, ONES))
        self.assertEqual(self.is_kept(DOUBLE, THREES), 0)
        self.assertIsNone(self.is_kept(PLANE, SQUARE))
        self.assertEqual(self.is_kept(PLANE, [point(2, 2), point(-2, -2)]), 0)

    def test_a_body_that_is_kept_just_so(self):
        self.assertIsNone(self.is_kept(STEERED, [point(-2), point(2)]))
        self.assertIsNotNone(self.is_kept(STEERED, [point(-2), point(2 + Fraction(1, LONG))]))
        self.assertIsNone(self.is_kept(DOUBLE, ONES))
        self.assertIsNotNone(self.is_kept(DOUBLE, [point(-1), point(1 - Fraction(1, LONG))]))
        self.assertIsNone(self.is_kept(STEERED, [point(-2 + Fraction(1, LONG)), point("3/2")]))

    def test_the_inputs_and_weights_where_there_is_only_one_choice(self):
        self.assertEqual(kept(DOUBLE, ONES), (
            "kept", [point(2), point(-2)], [[point(1, 0), point(0, 1)], [point(1, 0), point(0, 1)]]))
        self.assertEqual(kept(STEERED, [point(-2), point(2)]), (
            "kept", [point(4), point(-4)], [[point(1, 0)], [point(0, 1)]]))
        self.assertEqual(kept(HALF, ONES), ("kept", [(), ()], [[point("3/4", "1/4")], [point("1/4", "3/4")]]))

    def test_the_first_corner_that_is_lost(self):
        self.assertEqual(self.is_kept(STEERED, [point(0), point(3), point(-3)]), 1)
        self.assertEqual(self.is_kept(STEERED, [point(3), point(0), point(-3)]), 0)
        self.assertEqual(self.is_kept(STEERED, [point(0), point("1/2"), point(2), point(3)]), 3)
        self.assertEqual(self.is_kept(STEERED, [point(0), point(1), point(3), point(4)]), 2)

    def test_a_body_of_one_point(self):
        self.assertIsNone(self.is_kept(HALF, [point(0)]))
        self.assertEqual(self.is_kept(HALF, [point(1)]), 0)
        self.assertEqual(kept(STEERED, [point("3/2")]), ("kept", [point(-3)], [[point(1)]]))
        self.assertEqual(self.is_kept(STEERED, [point("5/2")]), 0)
        self.assertEqual(self.is_kept(DOUBLE, [point(0)]), 0)

    def test_a_point_of_the_list_between_the_others(self):
        self.assertIsNone(self.is_kept(DOUBLE, [point(-1), point("1/3"), point(1)]))
        self.assertIsNone(self.is_kept(DOUBLE, [point(0), point(-1), point(1), point(1 - Fraction(1, LONG))]))
        self.assertEqual(self.is_kept(DOUBLE, [point(0), point(-3), point(3)]), 1)

    def test_a_point_twice(self):
        self.assertIsNone(self.is_kept(DOUBLE, [*ONES, *ONES]))
        self.assertIsNone(self.is_kept(HALF, [point(0), point(0)]))
        self.assertEqual(self.is_kept(DOUBLE, [point(0), *THREES, *THREES]), 1)

    def test_no_inputs(self):
        self.assertIsNone(self.is_kept(PUSHED, ONES))
        self.assertEqual(self.is_kept(PUSHED, [point(1 - Fraction(1, LONG)), point(-1)]), 0)

    def test_no_disturbances(self):
        self.assertIsNone(self.is_kept(STEERED, ONES))
        turn = Machine(((0, 1), (-1, 0)), ((), ()), ((), ()), 1, (), ())
        self.assertIsNone(self.is_kept(turn, SQUARE))
        self.assertIsNone(self.is_kept(turn, [point(1, 0), point(0, 1), point(-1, 0), point(0, -1)]))
        self.assertEqual(self.is_kept(turn, [point(0, 0), point(1, 0), point(0, 1), point(-1, 0)]), 1)

    def test_flat_bodies(self):
        swap = Machine(((0, 1), (1, 0)), ((1,), (1,)), ((), ()), 1, ((-1, 1),), ())
        self.assertIsNone(self.is_kept(swap, [point(0, 0), point(2, 2)]))
        self.assertEqual(self.is_kept(swap, [point(0, 0), point(2, 1)]), 1)

    def test_inputs_on_one_side_of_0(self):
        lifted = Machine(((2,),), ((1,),), ((),), 1, ((3, 5),), ())
        self.assertEqual(kept(lifted, [point(-4)]), ("kept", [point(4)], [[point(1)]]))
        self.assertIsNone(self.is_kept(lifted, [point(-5), point(-3)]))
        self.assertEqual(self.is_kept(lifted, [point(-3), point(-2)]), 1)

    def test_intervals(self):
        rng = random.Random(92)
        seen = []
        for _ in range(300):
            machine = random_machine(rng, 1)
            low, high = sorted(Fraction(rng.randint(-9, 9), rng.randint(1, 3)) for _ in range(2))
            wanted = interval_is_kept(machine, low, high)
            self.assertEqual(self.is_kept(machine, [point(low), point(high)]), wanted)
            seen.append(wanted)
        for wanted in (None, 0, 1):
            self.assertGreater(seen.count(wanted), 15)

    def test_any_bodies(self):
        rng = random.Random(93)
        seen = []
        for _ in range(120):
            n = rng.randint(1, 3)
            seen.append(self.is_kept(random_machine(rng, n), random_points(rng, n, rng.randint(1, 7), 9)))
        self.assertGreater(seen.count(None), 10)
        self.assertGreater(len(seen) - seen.count(None), 10)

    def test_a_body_with_many_corners(self):
        machine = Machine(((3, 2), (-2, 3)), ((1, 0), (0, 1)), ((1, 0), (0, 1)), 5, ((-1, 1),) * 2, ((-1, 1),) * 2)
        # Points of the circle with the radius 3.
        points = [point(Fraction(3 * s * (9 - k * k), 9 + k * k), Fraction(18 * k, 9 + k * k))
                  for k in range(-9, 10) for s in (1, -1)]
        self.assertIsNone(self.is_kept(machine, points))


class JudgeKept(unittest.TestCase):
    PAPER = ([point(2), point(-2)], [[point(1, 0), point(0, 1)], [point(1, 0), point(0, 1)]])

    def judge(self, inputs, weights, limits=None, points=None, machine=DOUBLE):
        return judge_kept(machine, LIMITS if limits is None else limits, points or ONES, (inputs, weights))

    def test_right_papers(self):
        self.assertIs(self.judge(*self.PAPER), True)
        # Not the program's own: another input, another mix.
        mixes = [point("3/4", 0, "1/4"), point("1/4", 0, "3/4"), point(0, "1/2", "1/2"), point(0, 1, 0)]
        points = [point(-1), point(0), point(1)]
        half = Machine(((1,),), ((1,),), ((),), 2, ((-1, 1),), ())
        self.assertIs(self.judge([point("0")] * 3, [[mixes[0]], [mixes[3]], [mixes[1]]], [], points, half), True)
        self.assertIs(self.judge([point(0), point(1), point(0)], [[mixes[0]], [mixes[2]], [mixes[1]]], [], points,
                                 half), True)
        self.assertIs(self.judge([point(0)] * 3, [[point("1/2", "1/2", 0)], [point("1/2", 0, "1/2")],
                                                  [point(0, "1/2", "1/2")]], [], points, half), True)

    def test_an_input_beyond_its_limits(self):
        wide = Machine(((2,),), ((1,),), ((),), 1, ((-2, 2),), ())
        points = [point(-2), point(2)]
        self.assertIs(self.judge([point(2), point(-2)], [[point(1, 0)], [point(0, 1)]], [], points, wide), True)
        self.assertIs(self.judge([point(3), point(-2)], [[point("3/4", "1/4")], [point(0, 1)]], [], points, wide),
                      False)
        narrow = Machine(((2,),), ((1,),), ((),), 1, ((-2, 1),), ())
        self.assertIs(self.judge([point(2), point(-2)], [[point(1, 0)], [point(0, 1)]], [], points, narrow), False)

    def test_another_input(self):
        for odd in (point(1), point(-2), point(0), point(2 - Fraction(1, LONG)), point(2, 2), (), point(2, 0)):
            self.assertIs(self.judge([odd, point(-2)], self.PAPER[1]), False)
            self.assertIs(self.judge([point(2), odd] if odd != point(-2) else [odd, odd], self.PAPER[1]), False)

    def test_weights_of_another_mix(self):
        for odd in (point("1/2", "1/2"), point(0, 1), point(1 - Fraction(1, LONG), Fraction(1, LONG))):
            weights = copy.deepcopy(self.PAPER[1])
            for at in range(2):
                changed = copy.deepcopy(weights)
                changed[at][0] = odd
                self.assertIs(self.judge(self.PAPER[0], changed), False)
                changed = copy.deepcopy(weights)
                changed[at][1] = odd[::-1]
                self.assertIs(self.judge(self.PAPER[0], changed), False)

    def test_weights_with_another_sum_or_below_0(self):
        # At 0 each of these mixes is 0, too.
        machine = Machine(((0,),), ((),), ((),), 1, (), ())
        points = [point(-1), point(1), point(0)]
        good = point("1/2", "1/2", 0)
        for share, wanted in ((good, True), (point(0, 0, 1), True), (point("1/4", "1/4", "1/2"), True),
                              (point(0, 0, 0), False), (point("1/4", "1/4", 0), False), (point(1, 1, 0), False),
                              (point(-1, -1, 3), False), (point(1, 1, -1), False), (point(0, 0, 2), False),
                              (point("1/2", "1/2", Fraction(1, LONG)), False)):
            for at in range(3):
                weights = [[good] for _ in range(3)]
                weights[at] = [share]
                self.assertIs(self.judge([()] * 3, weights, [], points, machine), wanted)

    def test_a_number_too_few_or_too_many(self):
        machine = Machine(((0,),), ((),), ((),), 1, (), ())
        points = [point(-1), point(0)]
        self.assertIs(self.judge([(), ()], [[point(0, 1)]] * 2, [], points, machine), True)
        for share in ((), point(0), point(1), point(0, 1, 0), point(0, 1, 1), point(0, 0, 1)):
            self.assertIs(self.judge([(), ()], [[share], [point(0, 1)]], [], points, machine), False)
            self.assertIs(self.judge([(), ()], [[point(0, 1)], [share]], [], points, machine), False)

    def test_lists_that_are_too_short_or_too_long(self):
        inputs, weights = self.PAPER
        for some in ([], inputs[:1], [*inputs, inputs[0]]):
            self.assertIs(self.judge(some, weights), False)
        for some in ([], weights[:1], [*weights, weights[0]], [weights[0], []], [weights[0], weights[1][:1]],
                     [weights[0], [*weights[1], weights[1][0]]], [[], weights[1]], [[*weights[0], weights[0][1]],
                                                                                   weights[1]]):
            self.assertIs(self.judge(inputs, some), False)
        self.assertIs(self.judge([], []), False)
        self.assertIs(self.judge(inputs[:1], weights[:1]), False)
        self.assertIs(self.judge([*inputs, inputs[0]], [*weights, weights[0]]), False)

    def test_limits(self):
        for limits in ([], [((1,), 1), ((-1,), 1)], [((0,), 0)], [((1,), LONG)]):
            self.assertIs(self.judge(*self.PAPER, limits), True)
        for limits in ([((1,), 0)], [((-1,), 0)], [((LONG,), LONG - 1)], [((0,), -1)], [((1,), 1), ((-2,), 1)]):
            self.assertIs(self.judge(*self.PAPER, limits), False)

    def test_another_order(self):
        inputs, weights = self.PAPER
        self.assertIs(self.judge(inputs[::-1], weights), False)
        self.assertIs(self.judge(inputs, [share[::-1] for share in weights]), False)
        self.assertIs(self.judge(inputs[::-1], [[share[::-1] for share in mixes] for mixes in weights],
                                 points=ONES[::-1]), True)

    def test_each_part_of_a_paper(self):
        _, inputs, weights = kept(PLANE, SQUARE)
        self.assertIs(judge_kept(PLANE, BOX, SQUARE, (inputs, weights)), True)
        for at in range(4):
            for place in range(2):
                odd = list(inputs[at])
                odd[place] = (20, 1)
                self.assertIs(judge_kept(PLANE, BOX, SQUARE, ([*inputs[:at], tuple(odd), *inputs[at + 1:]], weights)),
                              False)
            for place in range(4):
                changed = copy.deepcopy(weights)
                share = changed[at][place]
                changed[at][place] = share[1:] + share[:1]
                self.assertIs(judge_kept(PLANE, BOX, SQUARE, (inputs, changed)), False)
                changed[at][place] = share
                self.assertIs(judge_kept(PLANE, BOX, SQUARE, (inputs, changed)), True)

    def test_a_body_that_is_lost(self):
        self.assertIs(self.judge(*self.PAPER, points=THREES), False)


class JudgeLost(unittest.TestCase):
    RIGHT = kept(DOUBLE, THREES)[1:]

    def judge(self, index, multipliers, points=None):
        return judge_lost(DOUBLE, points or THREES, (index, multipliers))

    def test_right_papers(self):
        self.assertEqual(self.RIGHT[0], 0)
        self.assertIs(self.judge(*self.RIGHT), True)
        # Times 2, and multipliers for the other corner, which kept does not tell.
        doubled = tuple((2 * number, divisor) if divisor % 2 else (number, divisor // 2)
                        for number, divisor in self.RIGHT[1])
        self.assertIs(self.judge(0, doubled), True)
        other = kept(DOUBLE, THREES[::-1])[2]
        equations, size = own_equations(DOUBLE, THREES, 1)
        for multipliers in (other, self.RIGHT[1]):
            self.assertIs(self.judge(1, multipliers), proves_unsolvable(equations, size, multipliers))

    def test_by_hand(self):
        # From 1 to 3 at least, but the input at most takes 1 away: the sum of the equations is u + .. = -1.
        machine = Machine(((3,),), ((1,),), ((),), 1, ((-1, 1),), ())
        points = [point(0), point(1)]
        self.assertEqual(equations_of(machine, points, 1),
                         ([((1, 1, 0, 0), 2), ((0, 0, 1, 1), 1), ((-1, 0, 0, 1), 2)], 4))
        self.assertIs(judge_lost(machine, points, (1, point(0, 1, -1))), True)
        self.assertIs(judge_lost(machine, points, (1, point(0, "3/2", "-3/2"))), True)
        self.assertIs(judge_lost(machine, points, (1, point(0, "3/2", -1))), True)
        for multipliers in (point(0, 0, 0), point(0, 2, -1), point(0, -1, 1), point(0, 0, -1), point(-1, 1, -1),
                            point(0, 1, 1), point(0, Fraction(-1, LONG) + 1, -1), point(1, 1, -1)):
            self.assertIs(judge_lost(machine, points, (1, multipliers)), False)
        # The corner 0 is kept.
        self.assertIs(judge_lost(machine, points, (0, point(0, 1, -1))), False)

    def test_an_index_that_is_none_of_a_corner(self):
        for index in (2, 3, 100, LONG, -1, -2, -3, -LONG):
            self.assertIs(self.judge(index, self.RIGHT[1]), False)
            self.assertIs(self.judge(index, self.RIGHT[1], THREES[::-1]), False)
            self.assertIs(self.judge(index, self.RIGHT[1], THREES[:1] * 4), index in (2, 3))

    def test_multipliers_as_many_or_not_as_many_as_the_equations(self):
        multipliers = self.RIGHT[1]
        self.assertEqual(len(multipliers), 5)
        for odd in ((), multipliers[:-1], multipliers[1:], (*multipliers, (0, 1)), ((0, 1), *multipliers),
                    (*multipliers, (0, 1), (0, 1))):
            self.assertIs(self.judge(0, odd), False)

    def test_multipliers_that_are_changed(self):
        self.assertIs(self.judge(0, tuple((-number, divisor) for number, divisor in self.RIGHT[1])), False)
        self.assertIs(self.judge(0, point(0, 0, 0, 0, 0)), False)
        for points in (ONES, [point(-2), point(2)]):
            equations, size = own_equations(DOUBLE, points, 0)
            self.assertIs(self.judge(0, self.RIGHT[1], points), proves_unsolvable(equations, size, self.RIGHT[1]))
        self.assertIs(self.judge(0, self.RIGHT[1], ONES), False)

    def test_any_multipliers(self):
        machine = Machine(((3,),), ((1,),), ((),), 1, ((-1, 1),), ())
        points = [point(0), point(1)]
        equations, size = own_equations(machine, points, 1)
        seen = []
        for multipliers in itertools.product(point(-2, -1, "-1/2", 0, "1/2", 1, 2), repeat=3):
            wanted = proves_unsolvable(equations, size, multipliers)
            self.assertIs(judge_lost(machine, points, (1, multipliers)), wanted)
            seen.append(wanted)
        self.assertGreater(seen.count(True), 3)


class Arguments(unittest.TestCase):
    def test_what_is_passed_stays_as_it_was(self):
        paper = JudgeKept.PAPER
        calls = (
            (equations_of, [DOUBLE, list(ONES), 1]), (kept, [DOUBLE, list(ONES)]), (kept, [DOUBLE, list(THREES)]),
            (judge_kept, [DOUBLE, list(LIMITS), list(ONES), (list(paper[0]), copy.deepcopy(paper[1]))]),
            (judge_kept, [DOUBLE, list(LIMITS), list(ONES), (list(paper[0]), copy.deepcopy(paper[1])[:1])]),
            (judge_lost, [DOUBLE, list(THREES), JudgeLost.RIGHT]))
        for function, arguments in calls:
            with self.subTest(function.__name__):
                before = copy.deepcopy((vars(arguments[0]), arguments[1:]))
                function(*arguments)
                self.assertEqual((vars(arguments[0]), arguments[1:]), before)

    def test_returned_lists_are_new(self):
        first, second = kept(DOUBLE, ONES), kept(DOUBLE, ONES)
        for at in (1, 2):
            self.assertIs(type(first[at]), list)
            self.assertIsNot(first[at], second[at])
        first[2][0].clear()
        self.assertIsNot(first[2][1], second[2][1])
        first[1].clear()
        first[2].clear()
        self.assertEqual(kept(DOUBLE, ONES), second)
        one, two = equations_of(DOUBLE, ONES, 0), equations_of(DOUBLE, ONES, 0)
        self.assertIs(type(one[0]), list)
        self.assertIs(type(one), tuple)
        one[0].clear()
        self.assertEqual(equations_of(DOUBLE, ONES, 0), two)


if __name__ == "__main__":
    unittest.main()
