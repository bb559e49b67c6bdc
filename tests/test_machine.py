"""Tests of stayswithin/machine.py (points 3.3, 3.5 and 3.6)."""

import copy
import itertools
import random
import unittest
from fractions import Fraction

from stayswithin import machine
from stayswithin.errors import BadMachine, BoundError
from stayswithin.machine import Machine

NAMES = ("a", "b", "e", "divisor", "input_limits", "disturbance_limits")
LONG = 10 ** 60 + 1

# Two states, one input, two disturbances.
GOOD = {
    "a": ((1, 2), (-3, 20)), "b": ((1,), (-20,)), "e": ((1, 0), (0, 1)), "divisor": 2, "input_limits": ((-1, 1),),
    "disturbance_limits": ((-20, 20), (3, 3))}
NO_NUMBERS = (True, False, None, "", "1", 21, -21, 1000, LONG, -LONG, (), (1,), [1], [])
NO_MATRICES = (
    None, True, False, 0, 1, 2, "", "a", "ab", (), [], ((),), [()], (1, 2), (None, None), ("a", "b"), ("ab", "ab"),
    ((1, 2), (3, 4), (5, 6)), ((1, 2), None), (None, (1, 2)), ((1, 2), (3,)), ((1,), (2, 3)), ((1, 2), (3, 4, 5)),
    ((1, 2), 3), ((1, 2), "ab"), ("ab", (1, 2)), ((), (1,)), ((1, 2), ()), ((1, 2),))
NO_PAIRS = (
    None, True, False, 0, 1, "", "a", "ab", (1, 2), [1, 2], (1,), [(1, 2)], ((1, 2),) * 3, ([1, 2],), ((1,),), ((),),
    ((1, 2, 3),), ((2, 1),), ((1, 0),), ((20, -20),), ((-1, -2),), (None,), ("ab",), ((1, (2,)),), (((1, 2),),))


def with_parts(**parts):
    return Machine(**{**GOOD, **parts})


def identity(size, width):
    """A matrix of `size` rows with `width` numbers each."""
    return tuple(tuple(int(row == column) for column in range(width)) for row in range(size))


class Asks(unittest.TestCase):
    def place(self, **parts):
        with self.assertRaises(BadMachine) as caught:
            with_parts(**parts)
        self.assertEqual(caught.exception.word, "BadMachine")
        self.assertIsInstance(caught.exception, BoundError)
        return caught.exception.place


class Interface(Asks):
    def test_the_class_and_its_methods_are_defined_in_the_file(self):
        self.assertEqual(Machine.__module__, "stayswithin.machine")
        self.assertIs(machine.Machine, Machine)
        for name in ("__init__", "accepts", "allows", "step", "run"):
            self.assertIn(name, vars(Machine))

    def test_the_arguments_by_position(self):
        double = Machine(((2,),), ((1,),), ((1,),), 1, ((-2, 2),), ((-1, 1),))
        self.assertEqual(double.step(((-3, 1),), ((2, 1),), ((-1, 1),)), ((-5, 1),))
        growing = Machine(((3,),), ((),), ((1,),), 2, (), ((-1, 1),))
        self.assertEqual(growing.run(((1, 1),), [((), ((1, 1),)), ((), ((1, 1),))]),
                         [((1, 1),), ((2, 1),), ((7, 2),)])

    def test_arguments_by_name(self):
        box = with_parts()
        zero = (0, 1)
        self.assertIs(box.accepts(inputs=(zero,)), True)
        self.assertIs(box.allows(disturbance=(zero, (3, 1))), True)
        self.assertEqual(box.step(disturbance=(zero, zero), inputs=((1, 1),), state=(zero, zero)), ((1, 2), (-10, 1)))
        self.assertEqual(box.run(rows=[], state=(zero, zero)), [(zero, zero)])


class Attributes(Asks):
    def test_what_was_passed(self):
        box = with_parts()
        self.assertIs(box.matrix_a, GOOD["a"])
        self.assertIs(box.matrix_b, GOOD["b"])
        self.assertIs(box.matrix_e, GOOD["e"])
        self.assertEqual(box.divisor, 2)
        self.assertIs(box.input_limits, GOOD["input_limits"])
        self.assertIs(box.disturbance_limits, GOOD["disturbance_limits"])

    def test_how_many(self):
        for n, m, p in itertools.product((1, 2, 3), (0, 1, 2), (0, 1, 2)):
            box = Machine(identity(n, n), identity(n, m), identity(n, p), 1, ((0, 1),) * m, ((-1, 0),) * p)
            self.assertEqual((box.states, box.inputs, box.disturbances), (n, m, p))

    def test_two_machines_keep_their_own(self):
        first, second = with_parts(divisor=3), with_parts(divisor=4)
        self.assertEqual((first.divisor, second.divisor), (3, 4))


class Refused(Asks):
    def test_the_first_one_in_order(self):
        odd = {"a": 1, "b": 1, "e": 1, "divisor": 0, "input_limits": 1, "disturbance_limits": 1}
        for at, name in enumerate(NAMES):
            self.assertEqual(self.place(**{name: odd[name]}), name)
            self.assertEqual(self.place(**{later: odd[later] for later in NAMES[at:]}), name)
            for other in NAMES[at + 1:]:
                self.assertEqual(self.place(**{name: odd[name], other: odd[other]}), name)

    def test_other_values_as_each_of_them(self):
        for name in NAMES:
            for value in (True, False, None, "", "abc", [], [[1]], [((1, 2), (3, 4))], 101, -1, ((("a",),),)):
                with self.subTest(name, value=value):
                    self.assertEqual(self.place(**{name: value}), name)
                    # A wrong part is told alike if all behind it are wrong too.
                    rest = NAMES[NAMES.index(name) + 1:]
                    self.assertEqual(self.place(**{name: value, **{other: None for other in rest}}), name)

    def test_a_list_in_place_of_a_tuple(self):
        for name in NAMES:
            if name != "divisor":
                good = GOOD[name]
                self.assertEqual(self.place(**{name: list(good)}), name)
                for at in range(len(good)):
                    self.assertEqual(self.place(**{name: (*good[:at], list(good[at]), *good[at + 1:])}), name)

    def test_matrices(self):
        for value in NO_MATRICES:
            with self.subTest(repr(value)):
                for name in ("a", "b", "e"):
                    self.assertEqual(self.place(**{name: value}), name)

    def test_the_numbers_of_matrices(self):
        for name in ("a", "b", "e"):
            good = GOOD[name]
            for row, column in itertools.product(range(2), range(len(good[0]))):
                for number in (0, 1, -1, 19, 20, -20, *NO_NUMBERS):
                    line = (*good[row][:column], number, *good[row][column + 1:])
                    matrix = (*good[:row], line, *good[row + 1:])
                    with self.subTest(name, number=repr(number)[:20], row=row, column=column):
                        if type(number) is int and abs(number) <= 20:
                            self.assertIs(getattr(with_parts(**{name: matrix}), "matrix_" + name), matrix)
                        else:
                            self.assertEqual(self.place(**{name: matrix}), name)

    def test_the_number_of_states(self):
        for size in (1, 2, 3):
            box = Machine(identity(size, size), ((),) * size, ((),) * size, 1, (), ())
            self.assertEqual((box.states, box.inputs, box.disturbances), (size, 0, 0))
        for size in (0, 4, 5):
            self.assertEqual(self.place(a=identity(size, size)), "a")
        for size, width in itertools.product(range(5), repeat=2):
            if size != width:
                self.assertEqual(self.place(a=identity(size, width)), "a")

    def test_the_number_of_columns(self):
        for width in (0, 1, 2):
            pairs = ((0, 1),) * width
            self.assertEqual(with_parts(b=identity(2, width), input_limits=pairs).inputs, width)
            self.assertEqual(with_parts(e=identity(2, width), disturbance_limits=pairs).disturbances, width)
        for width in (3, 4):
            pairs = ((0, 1),) * width
            self.assertEqual(self.place(b=identity(2, width), input_limits=pairs), "b")
            self.assertEqual(self.place(e=identity(2, width), disturbance_limits=pairs), "e")

    def test_other_numbers_of_rows_than_there_are_states(self):
        for name in ("b", "e"):
            for size in (0, 1, 3, 4):
                for width in (0, 1, 2):
                    self.assertEqual(self.place(**{name: identity(size, width)}), name)

    def test_the_divisor(self):
        for divisor in (1, 2, 21, 99, 100):
            self.assertEqual(with_parts(divisor=divisor).divisor, divisor)
        for divisor in (0, -1, -100, 101, LONG, True, False, None, "", "1", (1,), [1], (1, 1)):
            self.assertEqual(self.place(divisor=divisor), "divisor")

    def test_limits(self):
        for name, count in (("input_limits", 1), ("disturbance_limits", 2)):
            for value in NO_PAIRS:
                with self.subTest(name, value=repr(value)):
                    self.assertEqual(self.place(**{name: value}), name)
                    if isinstance(value, tuple) and len(value) == 1:
                        self.assertEqual(self.place(**{name: value * count}), name)
            for many in range(5):
                if many != count:
                    self.assertEqual(self.place(**{name: ((0, 1),) * many}), name)

    def test_the_numbers_of_limits(self):
        for pair in ((-20, 20), (20, 20), (-20, -20), (0, 0), (-1, 0), (19, 20)):
            self.assertEqual(with_parts(input_limits=(pair,)).input_limits, (pair,))
            for pairs in ((pair, (0, 1)), ((0, 1), pair)):
                self.assertEqual(with_parts(disturbance_limits=pairs).disturbance_limits, pairs)
        for pair in (*((number, 20) for number in NO_NUMBERS), *((-20, number) for number in NO_NUMBERS),
                     (1, 0), (20, -20), (-19, -20)):
            with self.subTest(repr(pair)[:40]):
                self.assertEqual(self.place(input_limits=(pair,)), "input_limits")
                self.assertEqual(self.place(disturbance_limits=(pair, (0, 1))), "disturbance_limits")
                self.assertEqual(self.place(disturbance_limits=((0, 1), pair)), "disturbance_limits")

    def test_limits_of_nothing(self):
        self.assertEqual(with_parts(b=((), ()), input_limits=()).input_limits, ())
        for value in ([], None, ((),), ((0, 0),), ""):
            self.assertEqual(self.place(b=((), ()), input_limits=value), "input_limits")
            self.assertEqual(self.place(e=((), ()), disturbance_limits=value), "disturbance_limits")


class WithinLimits(Asks):
    def test_accepts(self):
        box = with_parts(b=((1, 0), (0, 1)), input_limits=((-1, 2), (5, 5)))
        five = (5, 1)
        for number, wanted in (((-1, 1), True), ((2, 1), True), ((0, 1), True), ((3, 2), True), ((-2, 1), False),
                               ((3, 1), False), ((2 * LONG + 1, LONG), False), ((-LONG - 1, LONG), False)):
            self.assertIs(box.accepts((number, five)), wanted)
            self.assertIs(box.accepts((number, (4, 1))), False)
        for inputs in ((), (five,), ((0, 1),), ((0, 1), five, (0, 1)), ((0, 1), five, five)):
            self.assertIs(box.accepts(inputs), False)

    def test_allows(self):
        box = with_parts()
        three = (3, 1)
        for number, wanted in (((-20, 1), True), ((20, 1), True), ((1, 3), True), ((-21, 1), False),
                               ((20 * LONG + 1, LONG), False)):
            self.assertIs(box.allows((number, three)), wanted)
            self.assertIs(box.allows((three, number)), False)
        for disturbance in ((), (three,), (three, three, three)):
            self.assertIs(box.allows(disturbance), False)

    def test_each_by_its_own_limits(self):
        box = Machine(((1,),), ((1,),), ((1,),), 1, ((0, 2),), ((-2, 0),))
        self.assertEqual((box.accepts(((1, 1),)), box.allows(((1, 1),))), (True, False))
        self.assertEqual((box.accepts(((-1, 1),)), box.allows(((-1, 1),))), (False, True))

    def test_of_nothing(self):
        box = Machine(((1,),), ((),), ((),), 1, (), ())
        self.assertIs(box.accepts(()), True)
        self.assertIs(box.allows(()), True)
        self.assertIs(box.accepts(((0, 1),)), False)
        self.assertIs(box.allows(((0, 1),)), False)


class Steps(Asks):
    def test_each_part(self):
        box = with_parts()
        zero, one = (0, 1), (1, 1)
        rest = ((zero,), (zero, zero))
        self.assertEqual(box.step((one, zero), *rest), ((1, 2), (-3, 2)))
        self.assertEqual(box.step((zero, one), *rest), ((1, 1), (10, 1)))
        self.assertEqual(box.step((zero, zero), (one,), (zero, zero)), ((1, 2), (-10, 1)))
        self.assertEqual(box.step((zero, zero), (zero,), (one, zero)), ((1, 2), (0, 1)))
        self.assertEqual(box.step((zero, zero), (zero,), (zero, one)), ((0, 1), (1, 2)))
        self.assertEqual(box.step((one, one), (one,), (one, one)), ((5, 2), (-1, 1)))

    def test_beyond_the_limits(self):
        box = with_parts()
        self.assertEqual(box.step(((0, 1), (0, 1)), ((1000, 1),), ((-1000, 3), (7, 1))), ((1000, 3), (-19993, 2)))

    def test_against_sums_of_numbers(self):
        rng = random.Random(41)
        for _ in range(200):
            n, m, p = rng.randint(1, 3), rng.randint(0, 2), rng.randint(0, 2)
            matrices = [tuple(tuple(rng.randint(-20, 20) for _ in range(width)) for _ in range(n))
                        for width in (n, m, p)]
            divisor = rng.randint(1, 100)
            box = Machine(*matrices, divisor, ((0, 0),) * m, ((0, 0),) * p)
            parts = [[Fraction(rng.randint(-50, 50), rng.randint(1, 12)) for _ in range(width)] for width in (n, m, p)]
            wanted = [sum((number * part for matrix, point in zip(matrices, parts)
                           for number, part in zip(matrix[row], point)), Fraction(0)) / divisor for row in range(n)]
            points = [tuple((part.numerator, part.denominator) for part in point) for point in parts]
            self.assertEqual(box.step(*points), tuple((part.numerator, part.denominator) for part in wanted))

    def test_without_inputs_and_disturbances(self):
        box = Machine(((0, 1), (-1, 0)), ((), ()), ((), ()), 1, (), ())
        self.assertEqual(box.step(((1, 2), (3, 1)), (), ()), ((3, 1), (-1, 2)))
        box = Machine(((3,),), ((),), ((),), 100, (), ())
        self.assertEqual(box.step(((50, 1),), (), ()), ((3, 2),))


class Runs(Asks):
    def test_an_empty_list(self):
        box = with_parts()
        state = ((1, 2), (1, 3))
        self.assertEqual(box.run(state, []), [state])
        self.assertEqual(box.run(state, ()), [state])

    def test_one_after_another(self):
        box = Machine(((2,),), ((1,),), ((-1,),), 3, ((0, 1),), ((0, 1),))
        pairs = [(((1, 1),), ((0, 1),)), (((0, 1),), ((2, 1),)), (((5, 1),), ((1, 2),))]
        states = [((4, 1),), ((3, 1),), ((4, 3),), ((43, 18),)]
        for many in range(4):
            self.assertEqual(box.run(((4, 1),), pairs[:many]), states[:many + 1])

    def test_a_new_list_each_time(self):
        box = with_parts()
        state = ((1, 2), (1, 3))
        for rows in ([], [(((1, 1),), ((0, 1), (0, 1)))]):
            first, second = box.run(state, rows), box.run(state, rows)
            self.assertIs(type(first), list)
            self.assertIsNot(first, second)
            self.assertIsNot(first, rows)
            first.clear()
            self.assertEqual(box.run(state, rows), second)
            self.assertEqual(second[0], state)


class Arguments(Asks):
    def test_what_is_passed_stays_as_it_was(self):
        box = with_parts()
        before = copy.deepcopy(vars(box))
        state, inputs, disturbance = [(1, 2), (1, 3)], [(1, 1)], [(0, 1), (3, 1)]
        rows = [(inputs, disturbance), (inputs, disturbance)]
        passed = copy.deepcopy((state, inputs, disturbance, rows))
        box.accepts(inputs)
        box.allows(disturbance)
        box.step(state, inputs, disturbance)
        box.run(state, rows)
        self.assertEqual((state, inputs, disturbance, rows), passed)
        self.assertEqual(vars(box), before)

    def test_what_is_refused_stays_as_it_was(self):
        for name in NAMES:
            value = [[1, [2]], "a", None]
            self.assertEqual(self.place(**{name: value}), name)
            self.assertEqual(value, [[1, [2]], "a", None])


if __name__ == "__main__":
    unittest.main()
