"""Whole runs over several modules (the introduction, and points 5.2, 6.2, 6.3, 6.6, 7.2)."""

import doctest
import itertools
import random
import unittest
from fractions import Fraction

from stayswithin.bodies import same_body
from stayswithin.controller import Controller
from stayswithin.errors import Outside, TooManySteps
from stayswithin.forever import forever, judge_breaks, judge_within
from stayswithin.hulls import hull_outside, needed, same_hull, weights_of
from stayswithin.kept import judge_kept, judge_lost, kept
from stayswithin.limits import check_rows, corners_of, first_broken
from stayswithin.machine import Machine
from stayswithin.points import check_weights, scaled
from stayswithin.scale import goal_of, greatest_multiple, rows_of
from stayswithin.programs import is_best
from stayswithin.written import format_machine, format_points, parse_machine, parse_points
from tests.bodies_kept import proves_kept
from tests.papers import point

EXAMPLES = """
>>> from stayswithin.kept import kept
>>> from stayswithin.machine import Machine
>>> from stayswithin.scale import greatest_multiple
>>> double = Machine(((2,),), ((1,),), ((1,),), 1, ((-2, 2),), ((-1, 1),))
>>> kept(double, [((-3, 1),), ((3, 1),)])[:2]
('lost', 0)
>>> kept(double, [((-1, 1),), ((1, 1),)])[0]
'kept'
>>> limits = [((1,), 5), ((-1,), 5)]
>>> greatest_multiple(double, limits, [((-1, 1),), ((1, 1),)])[:2]
('best', (1, 1))

>>> from stayswithin.forever import forever
>>> growing = Machine(((3,),), ((),), ((1,),), 2, (), ((-1, 1),))
>>> forever(growing, [((1,), 2)], [((1, 1),)])
('breaks', 0, 0, [((1, 1),), ((1, 1),)])

>>> from stayswithin.bodies import implied, least_rows
>>> rows = [((1, 0), 2), ((0, 1), 3), ((1, 1), 6), ((-1, 0), 0), ((0, -1), 0)]
>>> implied(((1, 1), 6), rows[:2])
((1, 1), (1, 1))
>>> least_rows(rows)
(0, 1, 3, 4)

>>> from stayswithin.written import format_points, parse_machine, parse_points
>>> machine, rows = parse_machine("a 1 2\\na 0 1\\nb 1\\nb 0\\ne\\ne\\ndivisor 2\\ninput -1 1\\nrow 1 0 5")
>>> rows
[((1, 0), 5)]
>>> machine.step(((1, 1), (1, 1)), ((1, 2),), ())
((7, 4), (1, 2))
>>> parse_points("1/2 -3")
[((1, 2), (-3, 1))]
"""

DOUBLE = Machine(((2,),), ((1,),), ((1,),), 1, ((-2, 2),), ((-1, 1),))
# A turn that grows, held by two inputs, and a body with a corner more than it needs.
TURN = Machine(((5, 2), (-2, 5)), ((1, 0), (0, 1)), ((1, 0), (0, 1)), 5, ((-9, 9), (-8, 10)), ((-1, 1), (-1, 1)))
TURN_BODY = [point(-3, -3), point(3, -3), point(0, "1/2"), point(3, 3), point(-3, 3), point("7/2", 0)]
TURN_LIMITS = [((1, 0), 15), ((0, 1), 15), ((-1, 0), 15), ((0, -1), 15), ((1, 1), 20)]
# Three states and one disturbance.
CUBE = Machine(((5, 1, 0), (-1, 5, 1), (0, 1, 6)), ((1, 0), (0, 1), (1, 1)), ((1,), (0,), (-1,)), 7,
               ((-5, 5),) * 2, ((-1, 1),))
CUBE_BODY = [point(x, y, z) for x, y, z in itertools.product((-2, 2), repeat=3)]
CUBE_LIMITS = [((1, 0, 0), 20), ((0, 1, 1), 30), ((1, -2, 3), 99)]
# No inputs, and no disturbances.
PUSHED = Machine(((2, 1), (-1, 2)), ((), ()), ((1,), (0,)), 4, (), ((-1, 1),))
HELD = Machine(((3, 0), (1, 2)), ((1,), (1,)), ((), ()), 2, ((-3, 3),), ())
SQUARE = [point(x, y) for x, y in itertools.product((-2, 2), repeat=2)]
BOX = [((1, 0), 2), ((0, 1), 2), ((-1, 0), 2), ((0, -1), 2)]
CASES = ((DOUBLE, [((1,), 5), ((-1,), 5)], [point(-1), point(1)]), (TURN, TURN_LIMITS, TURN_BODY),
         (CUBE, CUBE_LIMITS, CUBE_BODY), (PUSHED, BOX, SQUARE), (HELD, BOX, SQUARE))


class Examples(unittest.TestCase):
    def test_of_the_document(self):
        test = doctest.DocTestParser().get_doctest(EXAMPLES, {}, "examples", None, 0)
        runner = doctest.DocTestRunner()
        runner.run(test)
        self.assertEqual((runner.failures, runner.tries), (0, len(test.examples)))
        self.assertGreater(runner.tries, 15)


class KeptForEver(unittest.TestCase):
    def check_run(self, machine, limits, points, inputs, starts, many):
        """Run the controller against corners of the disturbances; no state leaves the body or breaks a limit."""
        rng = random.Random(131)
        corners = corners_of(machine.disturbance_limits)
        steer = Controller(machine, points, inputs)
        for start in starts:
            disturbances = [rng.choice(corners) for _ in range(many)]
            states = steer.run(start, disturbances)
            self.assertEqual(len(states), many + 1)
            self.assertEqual(states[0], start)
            for state in states:
                self.assertIsNone(first_broken(limits, state))
            chosen = [steer.input_for(state) for state in states]
            self.assertTrue(all(machine.accepts(each) for each in chosen))
            self.assertEqual(machine.run(start, list(zip(chosen, disturbances))), states)
            check_weights(weights_of(points, states[-1]), len(points))

    def test_bodies_with_their_papers_and_controllers(self):
        for machine, limits, points in CASES:
            answer = kept(machine, points)
            self.assertEqual(answer[0], "kept")
            self.assertTrue(proves_kept(machine, limits, points, answer[1:]))
            self.assertIs(judge_kept(machine, limits, points, answer[1:]), True)
            middle = scaled(points[-1], (1, 3))
            self.check_run(machine, limits, points, answer[1], [points[0], points[-1], middle], 60)

    def test_the_greatest_multiples(self):
        for machine, limits, points in CASES:
            word, value, numbers, multipliers = greatest_multiple(machine, limits, points)
            self.assertEqual(word, "best")
            self.assertIs(is_best(rows_of(machine, limits, points), goal_of(machine, points), value, numbers,
                                  multipliers), True)
            made = [scaled(each, value) for each in points]
            answer = kept(machine, made)
            self.assertIs(judge_kept(machine, limits, made, answer[1:]), True)
            self.check_run(machine, limits, made, answer[1], [made[0]], 25)
            more = [scaled(each, (Fraction(*value) * 1001 / 1000).as_integer_ratio()) for each in points]
            answer = kept(machine, more)
            if answer[0] == "lost":
                self.assertIs(judge_lost(machine, more, answer[1:]), True)
            else:
                self.assertIsNotNone(hull_outside(more, limits))

    def test_each_first_step_of_a_kept_body(self):
        # Point 6.2: all states of the body, and all disturbances, not only corners.
        rng = random.Random(132)
        for machine, _, points in CASES:
            steer = Controller(machine, points, kept(machine, points)[1])
            for _ in range(10):
                shares = [rng.randint(0, 5) for _ in points]
                shares[0] += 1
                state = tuple(sum((Fraction(*each[at]) * share for each, share in zip(points, shares)), Fraction(0))
                              / sum(shares) for at in range(machine.states))
                disturbance = point(*(low + Fraction(rng.randint(0, 7), 7) * (high - low)
                                      for low, high in machine.disturbance_limits))
                steer.run(point(*state), [disturbance] * 4)

    def test_without_the_right_inputs_a_state_leaves_the_body(self):
        steer = Controller(DOUBLE, [point(-1), point(1)], [point(1), point(-1)])
        with self.assertRaises(Outside):
            steer.run(point(1), [point(1), point(1)])

    def test_the_needed_corners_alone(self):
        self.assertEqual(needed(TURN_BODY), (0, 1, 3, 4, 5))
        points = [TURN_BODY[at] for at in needed(TURN_BODY)]
        self.assertIs(same_hull(points, TURN_BODY), True)
        self.assertEqual(kept(TURN, points)[0], "kept")
        self.assertEqual(greatest_multiple(TURN, TURN_LIMITS, points)[:2],
                         greatest_multiple(TURN, TURN_LIMITS, TURN_BODY)[:2])


class ForEver(unittest.TestCase):
    def test_a_kept_body_without_inputs_never_breaks(self):
        # The corners of a body that is kept stay in it, and so within limits that they meet.
        self.assertEqual(kept(PUSHED, SQUARE)[0], "kept")
        word, rows, multipliers = forever(PUSHED, BOX, SQUARE)
        self.assertEqual(word, "within")
        self.assertIs(judge_within(PUSHED, BOX, SQUARE, (rows, multipliers)), True)
        self.assertIs(same_body(rows, BOX), True)

    def test_the_breaking_disturbances_lead_out(self):
        starts = SQUARE + [point("5/2", "5/2")]
        word, start, limit, disturbances = forever(PUSHED, [((4, 4), 15)], starts)
        self.assertEqual((word, start, limit, disturbances), ("breaks", 3, 0, []))
        limits = [((-2, 6), 9)]
        self.assertEqual(forever(PUSHED, limits, [point(0, 0), point(-3, 0)])[0], "within")
        # (-8, -2) meets the limit; with the disturbance -1 it goes to (-19/4, 1), which does not.
        self.assertEqual(forever(PUSHED, limits, [point(0, 0), point(-8, -2)]), ("breaks", 1, 0, [point(-1)]))
        self.assertIs(judge_breaks(PUSHED, limits, point(-8, -2), [point(-1)]), True)
        self.assertIs(judge_breaks(PUSHED, limits, point(-8, -2), []), False)

    def test_what_a_controller_holds_a_machine_does_not_hold_alone(self):
        alone = Machine(((2,),), ((),), ((1,),), 1, (), ((-1, 1),))
        self.assertEqual(forever(alone, [((1,), 5), ((-1,), 5)], [point(1)])[0], "breaks")
        steer = Controller(DOUBLE, [point(-1), point(1)], kept(DOUBLE, [point(-1), point(1)])[1])
        self.assertEqual(steer.run(point(1), [point(1)] * 30), [point(1)] * 31)

    def test_a_third_end(self):
        # A turn by an angle that never comes round.
        turning = Machine(((3, -4), (4, 3)), ((), ()), ((), ()), 5, (), ())
        with self.assertRaises(TooManySteps) as caught:
            forever(turning, BOX, [point(0, 0)])
        self.assertEqual(caught.exception.place, 12)


class Written(unittest.TestCase):
    def test_the_same_from_texts(self):
        for machine, limits, points in CASES:
            check_rows(limits, machine.states)
            again, rows = parse_machine(format_machine(machine, limits))
            corners = parse_points(format_points(points))
            self.assertEqual((rows, corners), (limits, points))
            self.assertEqual(kept(again, corners), kept(machine, points))
            self.assertEqual(greatest_multiple(again, rows, corners), greatest_multiple(machine, limits, points))

    def test_states_of_a_long_run(self):
        answer = kept(TURN, TURN_BODY)
        states = Controller(TURN, TURN_BODY, answer[1]).run(TURN_BODY[2], [point(1, -1)] * 12)
        self.assertEqual(parse_points(format_points(states)), states)


if __name__ == "__main__":
    unittest.main()
