"""Tests of stayswithin/controller.py (point 6.6)."""

import copy
import itertools
import random
import unittest
from fractions import Fraction

from stayswithin import controller as module
from stayswithin.controller import Controller
from stayswithin.errors import BoundError, Outside
from stayswithin.kept import kept
from stayswithin.limits import corners_of
from stayswithin.machine import Machine
from tests.odd import LONG
from tests.papers import numbers_of, point, within

# From x to 2 x + u + w.
DOUBLE = Machine(((2,),), ((1,),), ((1,),), 1, ((-2, 2),), ((-1, 1),))
ONES = [point(-1), point(1)]
STEER = Controller(DOUBLE, ONES, [point(2), point(-2)])
# Without disturbances, and without inputs.
CALM = Machine(((2,),), ((1,),), ((),), 1, ((-2, 2),), ())
PUSHED = Machine(((1,),), ((),), ((1,),), 2, (), ((-1, 1),))
# Two states, inputs and disturbances; the square is kept.
PLANE = Machine(((4, 1), (-1, 4)), ((1, 0), (0, 2)), ((1, 0), (1, 1)), 5, ((-3, 2), (-1, 1)), ((-1, 1), (0, 1)))
SQUARE = [point(-2, -2), point(-2, 2), point(2, -2), point(2, 2)]
BOX = [((1, 0), 2), ((0, 1), 2), ((-1, 0), 2), ((0, -1), 2)]
SMALL = Fraction(1, LONG)


class Asks(unittest.TestCase):
    def is_outside(self, call, *arguments):
        with self.assertRaises(Outside) as caught:
            call(*arguments)
        self.assertIsInstance(caught.exception, BoundError)
        self.assertEqual(caught.exception.word, "Outside")
        self.assertIsNone(caught.exception.place)


class Interface(Asks):
    def test_the_class_and_its_methods_are_defined_in_the_file(self):
        self.assertIs(module.Controller, Controller)
        self.assertEqual(Controller.__module__, "stayswithin.controller")
        for name in ("__init__", "input_for", "run"):
            self.assertIn(name, vars(Controller))

    def test_arguments_by_name(self):
        steer = Controller(inputs=[point(2), point(-2)], points=ONES, machine=DOUBLE)
        self.assertEqual(steer.input_for(state=point("1/2")), point(-1))
        self.assertEqual(steer.run(disturbances=[point(1)], state=point("1/2")), [point("1/2"), point(1)])


class InputFor(Asks):
    def test_a_corner(self):
        self.assertEqual(STEER.input_for(point(-1)), point(2))
        self.assertEqual(STEER.input_for(point(1)), point(-2))
        inputs = [point(1, "1/2"), point(0, 1), point(-3, "-2/3"), point(2, 0)]
        steer = Controller(PLANE, SQUARE, inputs)
        for state, wanted in zip(SQUARE, inputs):
            self.assertEqual(steer.input_for(state), wanted)

    def test_a_mix(self):
        self.assertEqual(STEER.input_for(point(0)), point(0))
        self.assertEqual(STEER.input_for(point("1/2")), point(-1))
        self.assertEqual(STEER.input_for(point("-1/3")), point("2/3"))
        self.assertEqual(STEER.input_for(point(1 - SMALL)), point(-2 + 2 * SMALL))
        steer = Controller(PLANE, [point(0, 0), point(3, 0), point(0, 2)], [point(1, 0), point(0, 1), point("1/2", -1)])
        # The weights are 1/6, 1/3 and 1/2.
        self.assertEqual(steer.input_for(point(1, 1)), point("5/12", "-1/6"))

    def test_an_input_that_some_weights_mix(self):
        # At the middle of the square many weights are right: the inputs of all of them lie on a line.
        steer = Controller(PLANE, SQUARE, [point(0, 0), point(1, 0), point(0, 1), point(1, 1)])
        first, second = (numbers_of(steer.input_for(point(0, 0)), 2))
        self.assertEqual((first, second), (Fraction(1, 2), Fraction(1, 2)))
        steer = Controller(PLANE, SQUARE, [point(0, 0), point(0, 0), point(0, 0), point(1, 1)])
        first, second = (numbers_of(steer.input_for(point(0, 0)), 2))
        self.assertEqual(first, second)
        self.assertTrue(0 <= first <= Fraction(1, 2))

    def test_states_outside_by_a_little(self):
        for state in (1 + SMALL, -1 - SMALL, 2, -LONG):
            self.is_outside(STEER.input_for, point(state))

    def test_states_outside_in_one_coordinate(self):
        steer = Controller(PLANE, SQUARE, [point(0, 0)] * 4)
        for x, y in itertools.product((-2 - SMALL, -2, 0, 2, 2 + SMALL), repeat=2):
            if abs(x) > 2 or abs(y) > 2:
                self.is_outside(steer.input_for, point(x, y))
            else:
                self.assertEqual(steer.input_for(point(x, y)), point(0, 0))

    def test_unlike_points(self):
        # A corner twice, one between the others, and divisors that share nothing.
        points = [point("1/3", "1/7"), point("-2/5", 0), point("1/3", "1/7"), point(0, "9/11"), point("-1/5", "2/7")]
        steer = Controller(PLANE, points, [point(1, 1)] * 5)
        for state in (*points, point("-1/30", "1/14"), point("-1/10", "1/5")):
            self.assertEqual(steer.input_for(state), point(1, 1))
        for state in (point("1/3", Fraction(1, 7) + SMALL), point("-2/5", SMALL), point(0, Fraction(9, 11) + SMALL),
                      point("1/3", 0)):
            self.is_outside(steer.input_for, state)

    def test_the_same_input_for_the_same_state(self):
        steer = Controller(PLANE, SQUARE, [point(1, 1), point(-3, "1/2"), point(2, -1), point(0, "1/3")])
        states = [point(0, 0), point(1, "1/2"), point("-1/3", 2), point(0, 0)]
        first = [steer.input_for(state) for state in states]
        self.assertEqual([steer.input_for(state) for state in states[::-1]], first[::-1])
        self.assertEqual(first[0], first[3])
        steer.run(point(0, 0), [point(0, 0)])
        self.assertEqual([steer.input_for(state) for state in states], first)
        other = Controller(PLANE, SQUARE, [point(1, 1), point(-3, "1/2"), point(2, -1), point(0, "1/3")])
        self.assertEqual([other.input_for(state) for state in states], first)

    def test_a_body_of_one_point(self):
        steer = Controller(DOUBLE, [point("1/2")], [point(-1)])
        self.assertEqual(steer.input_for(point("1/2")), point(-1))
        self.is_outside(steer.input_for, point(Fraction(1, 2) + SMALL))

    def test_no_inputs(self):
        steer = Controller(PUSHED, ONES, [(), ()])
        self.assertEqual(steer.input_for(point("1/3")), ())
        self.is_outside(steer.input_for, point(2))

    def test_the_input_is_within_the_limits(self):
        rng = random.Random(101)
        answer = kept(PLANE, SQUARE)
        self.assertEqual(answer[0], "kept")
        steer = Controller(PLANE, SQUARE, answer[1])
        for _ in range(50):
            state = point(*(Fraction(rng.randint(-60, 60), 30) for _ in range(2)))
            inputs = steer.input_for(state)
            self.assertIs(PLANE.accepts(inputs), True)
            for disturbance in corners_of(PLANE.disturbance_limits):
                self.assertTrue(within(BOX, numbers_of(PLANE.step(state, inputs, disturbance), 2)))


class Run(Asks):
    def test_with_disturbances(self):
        self.assertEqual(STEER.run(point("1/2"), [point(1), point(-1), point(0), point("1/3")]),
                         [point("1/2"), point(1), point(-1), point(0), point("1/3")])
        self.assertEqual(STEER.run(point(-1), [point(-1), point(-1)]), [point(-1)] * 3)

    def test_each_step(self):
        rng = random.Random(102)
        steer = Controller(PLANE, SQUARE, kept(PLANE, SQUARE)[1])
        disturbances = [point(rng.choice((-1, 0, 1, "1/2")), rng.choice((0, 1, "1/3"))) for _ in range(20)]
        states = steer.run(point("1/2", -1), disturbances)
        self.assertEqual(len(states), 21)
        for before, behind, disturbance in zip(states, states[1:], disturbances):
            self.assertEqual(behind, PLANE.step(before, steer.input_for(before), disturbance))
            self.assertTrue(within(BOX, numbers_of(behind, 2)))

    def test_with_none(self):
        for state in (point(0), point(1), point(7), point(-LONG)):
            self.assertEqual(STEER.run(state, []), [state])
        steer = Controller(CALM, ONES, [point(2), point(-2)])
        self.assertEqual(steer.run(point("1/2"), [(), (), ()]), [point("1/2"), point(0), point(0), point(0)])
        steer = Controller(PUSHED, ONES, [(), ()])
        self.assertEqual(steer.run(point(1), [point(1), point(0)]), [point(1), point(1), point("1/2")])

    def test_outside_for_a_state_behind_which_a_disturbance_stands(self):
        self.is_outside(STEER.run, point(2), [point(0)])
        self.is_outside(STEER.run, point(1 + SMALL), [point(0)])
        # A disturbance beyond its limits leads out; the last state is not asked.
        self.assertEqual(STEER.run(point(1), [point(2)]), [point(1), point(2)])
        self.assertEqual(STEER.run(point(1), [point(0), point(1), point(2)]),
                         [point(1), point(0), point(1), point(2)])
        self.is_outside(STEER.run, point(1), [point(2), point(0)])
        self.is_outside(STEER.run, point(1), [point(0), point(2), point(0), point(0)])

    def test_a_new_list_each_time(self):
        for disturbances in ([], [point(1)], [point(1), point(0)]):
            first, second = STEER.run(point(0), disturbances), STEER.run(point(0), disturbances)
            self.assertIs(type(first), list)
            self.assertIsNot(first, second)
            self.assertIsNot(first, disturbances)
            first.clear()
            self.assertEqual(STEER.run(point(0), disturbances), second)


class Arguments(Asks):
    def test_what_is_passed_stays_as_it_was(self):
        points, inputs, disturbances = list(ONES), [point(2), point(-2)], [point(1), point(-1)]
        machine = copy.deepcopy(vars(DOUBLE))
        before = copy.deepcopy((points, inputs, disturbances))
        steer = Controller(DOUBLE, points, inputs)
        steer.input_for(point("1/2"))
        steer.run(point("1/2"), disturbances)
        self.is_outside(steer.input_for, point(2))
        self.is_outside(steer.run, point(2), disturbances)
        self.assertEqual((points, inputs, disturbances), before)
        self.assertEqual(vars(DOUBLE), machine)

    def test_two_controllers_keep_their_own(self):
        other = Controller(DOUBLE, [point(0), point(2)], [point(0), point(-2)])
        self.assertEqual(other.input_for(point(1)), point(-1))
        self.assertEqual(STEER.input_for(point(1)), point(-2))


if __name__ == "__main__":
    unittest.main()
