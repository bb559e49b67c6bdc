"""What points 6.1 to 7.1 say, worked out here with Python's own fractions, without the functions of the program."""

import itertools
import math
from fractions import Fraction

from tests.papers import mix_of, numbers_of, product_sum, within


def corners(limits):
    return [tuple(corner) for corner in sorted(set(itertools.product(*limits)))]


def next_sums(machine, state, inputs, disturbance):
    """The next state times the divisor, as numbers."""
    return [product_sum(a, state) + product_sum(b, inputs) + product_sum(e, disturbance)
            for a, b, e in zip(machine.matrix_a, machine.matrix_b, machine.matrix_e)]


def made_whole(numbers, bound):
    factor = math.lcm(*(Fraction(part).denominator for part in (*numbers, bound)))
    return tuple(int(part * factor) for part in numbers), int(bound * factor)


def own_equations(machine, points, number):
    """The equations of point 6.4, and how many numbers they are about."""
    m, q = machine.inputs, len(points)
    disturbances = corners(machine.disturbance_limits)
    size = 2 * m + q * len(disturbances)
    states = [numbers_of(each, machine.states) for each in points]
    least = [low for low, _ in machine.input_limits]
    made = []
    for at, (low, high) in enumerate(machine.input_limits):
        numbers = [0] * size
        numbers[at] = numbers[m + at] = 1
        made.append((tuple(numbers), high - low))
    for place, disturbance in enumerate(disturbances):
        first = 2 * m + place * q
        numbers = [0] * size
        numbers[first:first + q] = [1] * q
        made.append((tuple(numbers), 1))
        moved = next_sums(machine, states[number], least, disturbance)
        for at in range(machine.states):
            numbers = [Fraction(0)] * size
            numbers[:m] = [-part for part in machine.matrix_b[at]]
            numbers[first:first + q] = [machine.divisor * state[at] for state in states]
            made.append(made_whole(numbers, moved[at]))
    return made, size


def are_inputs(machine, inputs):
    numbers = numbers_of(inputs, machine.inputs)
    return all(low <= part <= high for part, (low, high) in zip(numbers, machine.input_limits, strict=True))


def keeps_corner(machine, points, corner, inputs, mixes):
    """Whether the inputs are some, and the mixes are weights of the next states of the corner, one after another."""
    disturbances = corners(machine.disturbance_limits)
    if len(mixes) != len(disturbances) or not are_inputs(machine, inputs):
        return False
    for weights, disturbance in zip(mixes, disturbances):
        factors = numbers_of(weights, len(points))
        moved = next_sums(machine, numbers_of(corner, machine.states), numbers_of(inputs, machine.inputs), disturbance)
        if min(factors) < 0 or sum(factors) != 1:
            return False
        if [machine.divisor * part for part in mix_of(weights, points)] != moved:
            return False
    return True


def proves_kept(machine, limits, points, paper):
    """Whether a pair of lists is a paper of point 6.3."""
    inputs, weights = paper
    assert type(inputs) is list and type(weights) is list and {type(mixes) for mixes in weights} == {list}
    return (len(inputs) == len(weights) == len(points)
            and all(within(limits, numbers_of(each, machine.states)) for each in points)
            and all(keeps_corner(machine, points, *rest) for rest in zip(points, inputs, weights)))


def interval_is_kept(machine, low, high):
    """For a machine with one state: the index of the first of the two corners without an input, or None."""
    (a,), b, e = machine.matrix_a[0], machine.matrix_b[0], machine.matrix_e[0]
    pushes = [product_sum(e, disturbance) for disturbance in corners(machine.disturbance_limits)]
    # The sums that the inputs can add are all those from the least to the greatest one.
    adds = [product_sum(b, inputs) for inputs in corners(machine.input_limits)]
    for index, state in enumerate((low, high)):
        least = machine.divisor * low - a * state - min(pushes)
        most = machine.divisor * high - a * state - max(pushes)
        if max(least, min(adds)) > min(most, max(adds)):
            return index
    return None


def is_multiple(machine, limits, points, numbers):
    """Whether numbers are right for the program of point 7.1, by its words."""
    m, q = machine.inputs, len(points)
    disturbances = corners(machine.disturbance_limits)
    states = [numbers_of(each, machine.states) for each in points]
    factor = numbers[0]
    assert len(numbers) == 1 + m * q + q * q * len(disturbances)
    rest = iter(numbers[1:])
    inputs = [[next(rest) for _ in range(m)] for _ in states]
    right = factor >= 0
    for state, chosen in zip(states, inputs):
        multiple = [factor * part for part in state]
        right = right and within(limits, multiple)
        right = right and all(low <= part <= high for part, (low, high) in zip(chosen, machine.input_limits))
        for disturbance in disturbances:
            weights = [next(rest) for _ in states]
            mixed = [machine.divisor * product_sum(weights, column) for column in zip(*states)]
            right = right and min(weights) >= 0 and sum(weights) == factor
            right = right and mixed == next_sums(machine, multiple, chosen, disturbance)
    return right
