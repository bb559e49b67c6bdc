"""Tests of stayswithin/forever.py (points 5.1 to 5.6)."""

import copy
import itertools
import random
import unittest
from fractions import Fraction

from stayswithin import forever as module
from stayswithin.back import drawn_back
from stayswithin.bodies import escaping
from stayswithin.errors import BoundError, TooManySteps
from stayswithin.forever import STEPS_MOST, forever, judge_breaks, judge_within
from stayswithin.machine import Machine
from tests.odd import LONG
from tests.papers import numbers_of, point, product_sum, proves_by, within

# From x to (3 x + w) / 2, to (x + 2 w) / 2, and to x + w.
GROWING = Machine(((3,),), ((),), ((1,),), 2, (), ((-1, 1),))
HALVING = Machine(((1,),), ((),), ((2,),), 2, (), ((-1, 1),))
DRIFTING = Machine(((1,),), ((),), ((1,),), 1, (), ((0, 1),))
# A turn that shrinks, with a disturbance for each coordinate, and a turn by an angle that never comes round.
SHRINKING = Machine(((1, 1), (-1, 1)), ((), ()), ((1, 0), (0, 1)), 2, (), ((-1, 1), (-1, 1)))
TURNING = Machine(((3, -4), (4, 3)), ((), ()), ((), ()), 5, (), ())
BOTH = [((1,), 4), ((-1,), 4)]
BOX = [((1, 0), 8), ((0, 1), 8), ((-1, 0), 8), ((0, -1), 8)]
ORIGIN = point(0, 0)


def random_machine(rng, most):
    n, p = rng.randint(1, 3), rng.randint(0, 2)
    a, e = (tuple(tuple(rng.randint(-most, most) for _ in range(width)) for _ in range(n)) for width in (n, p))
    limits = tuple(tuple(sorted((rng.randint(-2, 2), rng.randint(-2, 2)))) for _ in range(p))
    return Machine(a, ((),) * n, e, rng.randint(1, 4), (), limits)


def greatest_sum(machine, numbers, state, steps):
    """The greatest sum of the numbers and the state behind so many steps, and the first of these disturbances.

    Worked out step by step with Python's own fractions, without the rows of the program.
    """
    row = [Fraction(number) for number in numbers]
    most = Fraction(0)
    first = ()
    for _ in range(steps):
        shares = [sum(part * line[at] for part, line in zip(row, machine.matrix_e)) / machine.divisor
                  for at in range(machine.disturbances)]
        first = tuple(high if share > 0 else low for share, (low, high) in zip(shares, machine.disturbance_limits))
        most += product_sum(shares, first)
        row = [sum(part * line[at] for part, line in zip(row, machine.matrix_a)) / machine.divisor
               for at in range(machine.states)]
    return product_sum(row, numbers_of(state, machine.states)) + most, first


def first_break(machine, limits, starts, levels):
    """The level, the index of the limit and that of the start of the first break, by sums; or None."""
    for level in range(levels):
        for limit, (numbers, bound) in enumerate(limits):
            for start, state in enumerate(starts):
                if greatest_sum(machine, numbers, state, level)[0] > bound:
                    return level, limit, start
    return None


class Asks(unittest.TestCase):
    def check_breaks(self, machine, limits, starts, answer, levels=12):
        """Judge an answer "breaks" by sums; return its level."""
        self.assertIs(type(answer), tuple)
        word, start, limit, disturbances = answer
        self.assertEqual(word, "breaks")
        self.assertIs(type(disturbances), list)
        level = len(disturbances)
        self.assertEqual(first_break(machine, limits, starts, levels), (level, limit, start))
        state = starts[start]
        for at, disturbance in enumerate(disturbances):
            greatest, chosen = greatest_sum(machine, limits[limit][0], state, level - at)
            self.assertGreater(greatest, limits[limit][1])
            self.assertEqual(disturbance, point(*chosen))
            state = machine.step(state, (), disturbance)
        self.assertFalse(within([limits[limit]], numbers_of(state, machine.states)))
        self.assertIs(judge_breaks(machine, limits, starts[start], disturbances), True)
        return level

    def check_within(self, machine, limits, starts, answer):
        """Judge an answer "within" by sums and by the words of point 5.5; return the number of its levels."""
        self.assertIs(type(answer), tuple)
        word, rows, multipliers = answer
        self.assertEqual(word, "within")
        self.assertIs(type(rows), list)
        self.assertIs(type(multipliers), list)
        count = len(limits)
        self.assertEqual(rows[:count], list(limits))
        self.assertEqual(len(rows) % count, 0)
        self.assertEqual(rows[count:], [drawn_back(machine, row) for row in rows[:-count]])
        self.assertEqual(len(multipliers), len(rows))
        for at, (row, shares) in enumerate(zip(rows, multipliers)):
            self.assertTrue(proves_by(rows, drawn_back(machine, row), shares))
            if at + count < len(rows):
                self.assertEqual(shares, tuple((int(at + count == place), 1) for place in range(len(rows))))
        for state in starts:
            self.assertTrue(within(rows, numbers_of(state, machine.states)))
        # No level but the last one leads to itself.
        for level in range(count, len(rows), count):
            self.assertTrue(any(escaping(row, rows[:level]) for row in rows[level:level + count]))
        self.assertIs(judge_within(machine, limits, starts, (rows, multipliers)), True)
        return len(rows) // count

    def too_many(self, machine, limits, starts):
        with self.assertRaises(TooManySteps) as caught:
            forever(machine, limits, starts)
        self.assertIsInstance(caught.exception, BoundError)
        self.assertEqual((caught.exception.word, caught.exception.place), ("TooManySteps", 12))


class Interface(unittest.TestCase):
    def test_each_name_is_defined_in_the_file(self):
        for name in ("forever", "judge_within", "judge_breaks"):
            self.assertEqual(getattr(module, name).__module__, "stayswithin.forever")
        self.assertEqual(STEPS_MOST, 12)
        self.assertIs(type(STEPS_MOST), int)

    def test_arguments_by_name(self):
        self.assertEqual(forever(starts=[point(0)], limits=BOTH, machine=HALVING)[:2], ("within", BOTH))
        paper = (BOTH, [((3, 4), (0, 1))] * 2)
        self.assertIs(judge_within(paper=paper, starts=[point(0)], limits=BOTH, machine=HALVING), False)
        self.assertIs(judge_breaks(disturbances=[], start=point(5), limits=BOTH, machine=HALVING), True)

    def test_the_example(self):
        self.assertEqual(forever(GROWING, [((1,), 2)], [point(1)]), ("breaks", 0, 0, [point(1), point(1)]))


class Breaks(Asks):
    def test_at_level_0(self):
        self.assertEqual(forever(HALVING, BOTH, [point(5)]), ("breaks", 0, 0, []))
        self.assertEqual(forever(HALVING, BOTH, [point(4), point(-4 - Fraction(1, LONG))]), ("breaks", 1, 1, []))
        self.assertEqual(forever(TURNING, BOX, [point(0, 0), point(0, 9)]), ("breaks", 1, 1, []))

    def test_the_least_index_of_the_row_first_and_then_of_the_start(self):
        self.assertEqual(forever(HALVING, BOTH, [point(-9), point(5), point(6)]), ("breaks", 1, 0, []))
        self.assertEqual(forever(HALVING, BOTH[::-1], [point(-9), point(5), point(6)]), ("breaks", 0, 0, []))
        self.assertEqual(forever(HALVING, BOTH, [point(0), point(-5), point(-9)]), ("breaks", 1, 1, []))
        starts = [point(0), point(-2), point(2), point(2)]
        self.assertEqual(forever(GROWING, [((1,), 3), ((-1,), 3)], starts), ("breaks", 2, 0, [point(1)]))
        self.assertEqual(forever(GROWING, [((-1,), 3), ((1,), 3)], starts), ("breaks", 1, 0, [point(-1)]))

    def test_a_row_with_a_greater_index_at_an_earlier_level_comes_first(self):
        # The second limit breaks at level 1, the first one not before level 2.
        answer = forever(GROWING, [((1,), 5), ((-1,), 3)], [point(2), point(-2)])
        self.assertEqual(answer, ("breaks", 1, 1, [point(-1)]))

    def test_at_later_levels(self):
        for bound in range(11):
            answer = forever(DRIFTING, [((1,), bound)], [point(0)])
            self.assertEqual(answer, ("breaks", 0, 0, [point(1)] * (bound + 1)))
            self.check_breaks(DRIFTING, [((1,), bound)], [point(0)], answer)

    def test_a_limit_that_is_just_met_is_not_broken(self):
        self.assertEqual(forever(GROWING, [((1,), 2)], [point(1)])[3], [point(1), point(1)])
        self.assertEqual(forever(GROWING, [((2,), 7)], [point(1)])[3], [point(1), point(1), point(1)])
        self.assertEqual(forever(GROWING, [((1,), 2)], [point(1 + Fraction(1, 3 * LONG))])[3], [point(1)])

    def test_a_number_0_takes_the_least_value(self):
        # The second disturbance changes y alone, and x does not ask y.
        machine = Machine(((2, 0), (0, 1)), ((), ()), ((1, 0), (0, 1)), 1, (), ((-1, 3), (-2, 5)))
        limits = [((1, 0), 10), ((-1, 0), 10), ((0, 1), 100)]
        for start, wanted in ((point(2, 0), (0, 3)), (point(-4, 0), (1, -1)), (point(5, 0), (0, 3))):
            word, _, limit, disturbances = forever(machine, limits, [start])
            self.assertEqual((word, limit), ("breaks", wanted[0]))
            self.assertEqual(set(disturbances), {point(wanted[1], -2)})
        # A disturbance that changes nothing at all, with limits on either side of 0.
        for pair in ((-7, 7), (3, 5), (-9, -2), (4, 4)):
            idle = Machine(((2,),), ((),), ((0,),), 1, (), (pair,))
            self.assertEqual(forever(idle, [((1,), 7)], [point(1)])[3], [point(pair[0])] * 3)

    def test_a_number_that_is_0_at_the_last_step_only(self):
        # The limit asks x, x asks the y of the step before: at the last step w changes y alone.
        machine = Machine(((0, 1), (0, 1)), ((), ()), ((0,), (1,)), 1, (), ((-3, 2),))
        answer = forever(machine, [((1, 0), 3)], [ORIGIN])
        self.assertEqual(answer, ("breaks", 0, 0, [point(2), point(2), point(-3)]))
        self.check_breaks(machine, [((1, 0), 3)], [ORIGIN], answer)

    def test_signs_that_change_from_step_to_step(self):
        machine = Machine(((-2,),), ((),), ((1,),), 1, (), ((-1, 2),))
        answer = forever(machine, [((1,), 10), ((-1,), 100)], [point(1)])
        self.assertEqual(answer, ("breaks", 0, 0, [point(2), point(-1), point(2), point(-1), point(2)][-len(answer[3]):]))
        self.check_breaks(machine, [((1,), 10), ((-1,), 100)], [point(1)], answer)

    def test_without_disturbances(self):
        double = Machine(((2,),), ((),), ((),), 1, (), ())
        self.assertEqual(forever(double, [((1,), 7)], [point(0), point(1)]), ("breaks", 1, 0, [(), (), ()]))
        self.assertEqual(forever(double, [((1,), 7)], [point("1/2"), point(1)]), ("breaks", 1, 0, [(), (), ()]))

    def test_starts_of_fractions(self):
        self.assertEqual(forever(GROWING, [((1,), 2)], [point("-9/7"), point("2/3")])[0], "breaks")
        answer = forever(GROWING, [((1,), 2)], [point("-9/7"), point("11/9")])
        self.assertEqual(answer, ("breaks", 1, 0, [point(1)]))

    def test_no_fewer_disturbances_break_a_limit(self):
        limits, starts = [((1,), 3), ((-1,), 5)], [point("-1/2"), point("1/2"), point(1)]
        answer = forever(GROWING, limits, starts)
        level = self.check_breaks(GROWING, limits, starts, answer)
        self.assertGreater(level, 1)
        ends = [point(number) for number in (-1, 0, 1)]
        for many in range(level):
            for start, chosen in itertools.product(starts, itertools.product(ends, repeat=many)):
                self.assertIs(judge_breaks(GROWING, limits, start, list(chosen)), False)


class Within(Asks):
    def test_one_level(self):
        answer = forever(HALVING, BOTH, [point(4), point(-4)])
        self.assertEqual(answer[1], BOTH)
        self.assertEqual(self.check_within(HALVING, BOTH, [point(4), point(-4)], answer), 1)

    def test_where_only_one_paper_is_right(self):
        # x to x / 2: the row x <= 4 drawn back is x <= 8.
        half = Machine(((1,),), ((),), ((),), 2, (), ())
        self.assertEqual(forever(half, [((1,), 4)], [point(1)]), ("within", [((1,), 4)], [((1, 1),)]))
        self.assertEqual(forever(half, [((3,), 4)], [point(1)]), ("within", [((3,), 4)], [((1, 1),)]))

    def test_two_levels(self):
        answer = forever(SHRINKING, BOX, [ORIGIN, point(7, 8)])
        self.assertEqual(answer[1], [*BOX, ((1, 1), 15), ((-1, 1), 15), ((-1, -1), 15), ((1, -1), 15)])
        self.assertEqual(self.check_within(SHRINKING, BOX, [ORIGIN, point(7, 8)], answer), 2)

    def test_a_start_that_is_just_within_and_one_that_is_not(self):
        self.assertEqual(forever(SHRINKING, BOX, [point(7, 8)])[0], "within")
        answer = forever(SHRINKING, BOX, [point(7 + Fraction(1, LONG), 8)])
        self.assertEqual(answer, ("breaks", 0, 0, [point(1, -1)]))

    def test_all_levels_that_are_taken(self):
        # This turn needs the levels 0 to 11, all that there are.
        machine = Machine(((4, -1), (1, 4)), ((), ()), ((), ()), 5, (), ())
        limits = [((1, 0), 5), ((0, 1), 5)]
        answer = forever(machine, limits, [ORIGIN])
        self.assertEqual(self.check_within(machine, limits, [ORIGIN], answer), 12)
        # With one limit alone it needs more.
        self.too_many(machine, limits[:1], [ORIGIN])

    def test_a_row_that_is_drawn_back_to_zeros(self):
        gone = Machine(((0,),), ((),), ((1,),), 1, (), ((-1, 1),))
        self.assertEqual(forever(gone, [((1,), 1)], [point(1)])[0], "within")
        self.assertEqual(forever(gone, [((2,), 1)], [point(0)]), ("breaks", 0, 0, [point(1)]))

    def test_a_limit_twice(self):
        answer = forever(SHRINKING, BOX + BOX, [ORIGIN])
        self.assertEqual(self.check_within(SHRINKING, BOX + BOX, [ORIGIN], answer), 2)

    def test_starts_of_fractions_and_without_disturbances(self):
        half = Machine(((1, 5), (0, 1)), ((), ()), ((), ()), 2, (), ())
        starts = [point("1/3", "2/7"), point("-1/2", 0)]
        self.check_within(half, BOX, starts, forever(half, BOX, starts))

    def test_all_the_starts_are_asked(self):
        for at in range(3):
            starts = [point(0)] * at + [point(5)] + [point(0)] * (2 - at)
            self.assertEqual(forever(HALVING, BOTH, starts), ("breaks", at, 0, []))


class Steps(Asks):
    def test_too_many(self):
        self.too_many(TURNING, BOX, [ORIGIN])
        self.too_many(TURNING, BOX, [point(8, 0)])
        # It breaks at level 12, which is not taken.
        self.too_many(DRIFTING, [((1,), 11)], [point(0)])
        self.too_many(DRIFTING, [((1,), 1000)], [point(0)])

    def test_the_starts_are_asked_at_level_11(self):
        self.assertEqual(forever(DRIFTING, [((1,), 10)], [point(0)]), ("breaks", 0, 0, [point(1)] * 11))
        self.assertEqual(forever(DRIFTING, [((1,), 11)], [point(0), point("1/2")]),
                         ("breaks", 1, 0, [point(1)] * 11))


class AnyMachines(Asks):
    def test_the_three_answers(self):
        rng = random.Random(81)
        seen = {"breaks": [], "within": [], "many": []}
        for _ in range(250):
            machine = random_machine(rng, 4)
            n = machine.states
            limits = [(tuple(rng.randint(-3, 3) for _ in range(n)), rng.randint(1, 12))
                      for _ in range(rng.randint(1, 5))]
            starts = [point(*(Fraction(rng.randint(-2, 2), rng.randint(1, 4)) for _ in range(n)))
                      for _ in range(rng.randint(1, 3))]
            try:
                answer = forever(machine, limits, starts)
            except TooManySteps as error:
                self.assertEqual(error.place, 12)
                self.assertIsNone(first_break(machine, limits, starts, 12))
                seen["many"].append(12)
                continue
            check = {"breaks": self.check_breaks, "within": self.check_within}[answer[0]]
            seen[answer[0]].append(check(machine, limits, starts, answer))
            if answer[0] == "within":
                self.assertIsNone(first_break(machine, limits, starts, 15))
        self.assertGreater(min(len(levels) for levels in seen.values()), 5)
        self.assertGreater(max(seen["breaks"]), 3)
        self.assertGreater(max(seen["within"]), 2)


class JudgeWithin(Asks):
    STARTS = [ORIGIN, point(7, 8)]

    def setUp(self):
        _, self.rows, self.shares = forever(SHRINKING, BOX, self.STARTS)

    def judge(self, rows, shares, starts=None, limits=None):
        return judge_within(SHRINKING, BOX if limits is None else limits, starts or self.STARTS, (rows, shares))

    def test_a_right_paper(self):
        self.assertIs(self.judge(self.rows, self.shares), True)

    def test_papers_of_others(self):
        # x from -2 to 2 alone, which is kept to, within wider limits that are told again.
        rows = [((1,), 2), ((-1,), 2), ((1,), 4)]
        shares = [point(1, 0, 0), point(0, 1, 0), point(1, 0, 0)]
        self.assertIs(judge_within(HALVING, [((1,), 4)], [point(2)], (rows, shares)), True)
        self.assertIs(judge_within(HALVING, [((1,), 4)], [point(2), point(-2)], (rows, shares)), True)
        self.assertIs(judge_within(HALVING, [((1,), 4)], [point(2), point(3)], (rows, shares)), False)
        self.assertIs(judge_within(HALVING, [((1,), 5)], [point(2)], (rows, shares)), False)
        # The row x <= 4 drawn back is x <= 6, and x <= 2 drawn back is x <= 2 again.
        shares[2] = point(0, 0, 1)
        self.assertIs(judge_within(HALVING, [((1,), 4)], [point(2)], (rows, shares)), True)
        shares[0] = point(0, 0, 1)
        self.assertIs(judge_within(HALVING, [((1,), 4)], [point(2)], (rows, shares)), False)

    def test_the_rows_in_another_order(self):
        order = [5, 0, 7, 2, 1, 6, 4, 3]
        rows = [self.rows[at] for at in order]
        shares = [tuple(self.shares[at][place] for place in order) for at in order]
        self.assertIs(self.judge(rows, shares), True)
        self.assertIs(self.judge(rows, [self.shares[at] for at in order]), False)

    def test_a_row_left_out(self):
        for at in range(8):
            rows = self.rows[:at] + self.rows[at + 1:]
            shares = [share[:at] + share[at + 1:] for share in self.shares[:at] + self.shares[at + 1:]]
            self.assertIs(self.judge(rows, shares), False)
            self.assertIs(self.judge(rows, self.shares), False)

    def test_a_row_put_in(self):
        zeros = [(*share, (0, 1)) for share in self.shares]
        self.assertIs(self.judge([*self.rows, ((0, 0), 1)], [*zeros, point(0, 0, 0, 0, 0, 0, 0, 0, 1)]), True)
        self.assertIs(self.judge([*self.rows, ((0, 0), 1)], zeros), False)
        self.assertIs(self.judge([*self.rows, ((0, 0), 1)], [*zeros, point(*[0] * 8)]), False)
        # x + 2 y is at most 23 at the starts, but not for ever shown by these multipliers.
        self.assertIs(self.judge([*self.rows, ((1, 2), 23)], [*zeros, point(*[0] * 8, 1)]), False)
        # A row that a start does not meet.
        self.assertIs(self.judge([*self.rows, ((0, 0), -1)], [*zeros, point(*[0] * 8, 1)]), False)
        self.assertIs(self.judge([*self.rows, ((1, 0), 6)], [*zeros, point(*[0] * 9)]), False)

    def test_another_bound(self):
        for at, change in itertools.product(range(8), (1, -1)):
            rows = list(self.rows)
            rows[at] = (rows[at][0], rows[at][1] + change)
            # A lesser bound of a row that is no limit is as right, if the starts meet it and its sum does.
            self.assertIs(self.judge(rows, self.shares), at > 4 and change < 0)

    def test_a_bound_that_is_just_met_and_one_that_is_missed(self):
        machine = Machine(((1,),), ((),), ((1,),), 2, (), ((0, 3),))
        shares = [point(1)]
        self.assertIs(judge_within(machine, [((1,), 3)], [point(0)], ([((1,), 3)], shares)), True)
        self.assertIs(judge_within(machine, [((1,), 2)], [point(0)], ([((1,), 2)], shares)), False)
        self.assertIs(judge_within(machine, [((1,), 4)], [point(0)], ([((1,), 4)], shares)), True)

    def test_multipliers_that_are_changed(self):
        for at, place in itertools.product(range(8), repeat=2):
            for change in (1, -1, Fraction(1, LONG)):
                shares = list(self.shares)
                share = list(shares[at])
                share[place] = point(Fraction(*share[place]) + change)[0]
                shares[at] = tuple(share)
                self.assertIs(self.judge(self.rows, shares), False)

    def test_multipliers_below_0(self):
        # With a multiplier below 0 the sums are right, too.
        rows = [((1,), 4), ((-1,), -4)]
        still = Machine(((1,),), ((),), ((),), 1, (), ())
        self.assertIs(judge_within(still, rows, [point(4)], (rows, [point(1, 0), point(0, 1)])), True)
        self.assertIs(judge_within(still, rows, [point(4)], (rows, [point(2, 1), point(0, 1)])), True)
        self.assertIs(judge_within(still, rows, [point(4)], (rows, [point(0, -1), point(0, 1)])), False)
        self.assertIs(judge_within(still, rows, [point(4)], (rows, [point(1, 0), point(-1, 0)])), False)

    def test_lists_that_are_too_short_or_too_long(self):
        self.assertIs(self.judge(self.rows, self.shares[:-1]), False)
        self.assertIs(self.judge(self.rows, [*self.shares, self.shares[-1]]), False)
        self.assertIs(self.judge(self.rows[:-1], self.shares), False)
        self.assertIs(self.judge(self.rows, []), False)
        self.assertIs(self.judge([], []), False)
        self.assertIs(self.judge([], self.shares), False)
        for share in (self.shares[3][:-1], (*self.shares[3], (0, 1)), ()):
            self.assertIs(self.judge(self.rows, [*self.shares[:3], share, *self.shares[4:]]), False)

    def test_a_row_with_another_number_of_integers(self):
        for at in range(8):
            numbers, bound = self.rows[at]
            for odd in ((), numbers[:1], (*numbers, 0), (*numbers, 1, 0)):
                rows = [*self.rows[:at], (odd, bound), *self.rows[at + 1:]]
                self.assertIs(self.judge(rows, self.shares), False)
        zeros = [(*share, (0, 1)) for share in self.shares]
        for odd in ((), (0,), (0, 0, 0)):
            self.assertIs(self.judge([*self.rows, (odd, 1)], [*zeros, point(*[0] * 8, 1)]), False)

    def test_a_limit_that_is_none_of_the_rows(self):
        for odd in (((1, 0), 9), ((2, 0), 16), ((0, 0), 0), ((1, 1), 16)):
            self.assertIs(self.judge(self.rows, self.shares, limits=[*BOX, odd]), False)
            self.assertIs(self.judge(self.rows, self.shares, limits=[odd]), False)
        for limits in (BOX[:2], BOX[::-1], [((1, 1), 15)], BOX + BOX):
            self.assertIs(self.judge(self.rows, self.shares, limits=limits), True)

    def test_a_start_that_does_not_meet_a_row(self):
        self.assertIs(self.judge(self.rows, self.shares, starts=[point(7, 8), point(-8, -7)]), True)
        for start in (point(8, 8), point(7 + Fraction(1, LONG), 8), point(0, -9)):
            self.assertIs(self.judge(self.rows, self.shares, starts=[start]), False)
            self.assertIs(self.judge(self.rows, self.shares, starts=[ORIGIN, start]), False)

    def test_another_machine(self):
        other = Machine(((1, 1), (-1, 1)), ((), ()), ((1, 0), (0, 1)), 2, (), ((-1, 1), (-1, 2)))
        self.assertIs(judge_within(other, BOX, [ORIGIN], (self.rows, self.shares)), False)


class JudgeBreaks(unittest.TestCase):
    LIMITS = [((1,), 2), ((-1,), 9)]

    def judge(self, *disturbances, start=point(1), limits=None):
        return judge_breaks(GROWING, self.LIMITS if limits is None else limits, start, list(disturbances))

    def test_right_ones(self):
        self.assertIs(self.judge(point(1), point(1)), True)
        self.assertIs(self.judge(point(1), point(1), limits=self.LIMITS[::-1]), True)
        self.assertIs(self.judge(point("1/2"), point("2/3")), True)
        self.assertIs(self.judge(point(0), point(0)), True)
        self.assertIs(self.judge(point(-1), point(-1), start=point(-5)), True)

    def test_a_limit_that_is_just_met(self):
        self.assertIs(self.judge(point(1)), False)
        self.assertIs(self.judge(point(1), start=point(1 + Fraction(1, LONG))), True)
        self.assertIs(self.judge(point(1 - Fraction(1, LONG)), start=point(1)), False)
        self.assertIs(self.judge(point(-1), point(-1)), False)

    def test_no_disturbances(self):
        self.assertIs(self.judge(), False)
        self.assertIs(self.judge(start=point(2)), False)
        self.assertIs(self.judge(start=point("21/10")), True)
        self.assertIs(self.judge(start=point(-10)), True)

    def test_beyond_their_limits(self):
        for odd in (point(2), point(-2), point(1 + Fraction(1, LONG)), point(-1 - Fraction(1, LONG)), point(LONG)):
            self.assertIs(self.judge(odd, point(1), point(1)), False)
            self.assertIs(self.judge(point(1), odd, point(1)), False)
            self.assertIs(self.judge(point(1), point(1), odd), False)
        self.assertIs(self.judge(point(1), point(1), point(1)), True)

    def test_a_coordinate_more_or_fewer(self):
        for odd in ((), point(1, 1), point(1, 0)):
            self.assertIs(self.judge(odd, point(1), point(1)), False)
            self.assertIs(self.judge(point(1), point(1), odd), False)
        double = Machine(((2,),), ((),), ((),), 1, (), ())
        self.assertIs(judge_breaks(double, [((1,), 7)], point(1), [(), (), ()]), True)
        self.assertIs(judge_breaks(double, [((1,), 7)], point(1), [(), ()]), False)
        self.assertIs(judge_breaks(double, [((1,), 7)], point(1), [(), point(0), ()]), False)

    def test_the_states_on_the_way_are_not_asked(self):
        # From 3, beyond the limit, to -3 and back to 3.
        swing = Machine(((-1,),), ((),), ((1,),), 1, (), ((-1, 1),))
        self.assertIs(judge_breaks(swing, [((1,), 2)], point(3), [point(0)]), False)
        self.assertIs(judge_breaks(swing, [((1,), 2)], point(3), [point(0), point(0)]), True)

    def test_any_of_the_limits(self):
        limits = [((1,), 100), ((-1,), 100), ((2,), 5)]
        self.assertIs(self.judge(point(1), point(1), limits=limits), True)
        self.assertIs(self.judge(point(1), point(1), limits=limits[:2]), False)
        self.assertIs(self.judge(point(1), point(1), limits=[]), False)


class Arguments(unittest.TestCase):
    def test_what_is_passed_stays_as_it_was(self):
        _, rows, shares = forever(SHRINKING, BOX, [ORIGIN])
        calls = (
            (forever, [SHRINKING, list(BOX), [ORIGIN, point(7, 8)]]), (forever, [GROWING, [((1,), 2)], [point(1)]]),
            (judge_within, [SHRINKING, list(BOX), [ORIGIN], (list(rows), list(shares))]),
            (judge_within, [SHRINKING, list(BOX), [ORIGIN], (list(rows), list(shares[1:]))]),
            (judge_breaks, [GROWING, [((1,), 2)], point(1), [point(1), point(1)]]))
        for function, arguments in calls:
            with self.subTest(function.__name__):
                before = copy.deepcopy((vars(arguments[0]), arguments[1:]))
                function(*arguments)
                self.assertEqual((vars(arguments[0]), arguments[1:]), before)

    def test_what_leads_to_too_many_steps_stays_as_it_was(self):
        limits, starts = list(BOX), [ORIGIN]
        with self.assertRaises(TooManySteps):
            forever(TURNING, limits, starts)
        self.assertEqual((limits, starts), (BOX, [ORIGIN]))

    def test_returned_lists_are_new(self):
        limits, starts = list(BOTH), [point(4)]
        first, second = forever(HALVING, limits, starts), forever(HALVING, limits, starts)
        self.assertEqual(first, second)
        for at in (1, 2):
            self.assertIsNot(first[at], second[at])
            self.assertIsNot(first[at], limits)
            first[at].clear()
        self.assertEqual(limits, BOTH)
        self.assertEqual(forever(HALVING, limits, starts), second)
        first, second = (forever(GROWING, [((1,), 2)], [point(1)]) for _ in range(2))
        self.assertIsNot(first[3], second[3])
        first[3].clear()
        self.assertEqual(forever(GROWING, [((1,), 2)], [point(1)]), second)


if __name__ == "__main__":
    unittest.main()
