"""Bodies that can be kept: inputs for their corners, with papers and judges of these."""

from stayswithin.fractions import ONE, ZERO, added, times, total
from stayswithin.limits import corners_of, first_broken
from stayswithin.points import dot, mixed, point_of
from stayswithin.programs import are_multipliers, is_unsolvable, whole_row
from stayswithin.simplex import solved


def equations_of(machine, points, number):
    """Return the equations of the corner with this index, and the number of their unknown numbers."""
    disturbances = corners_of(machine.disturbance_limits)
    first = 2 * machine.inputs
    size = first + len(disturbances) * len(points)
    equations = input_equations(machine, size)
    for place, disturbance in enumerate(disturbances):
        start = first + place * len(points)
        equations.append(weight_equation(start, len(points), size))
        equations.extend(next_equations(machine, points, points[number], disturbance, start, size))
    return (equations, size)


def input_equations(machine, size):
    """Return for each input the equation of how much it is above its least value and below its greatest one."""
    equations = []
    for at, (least, greatest) in enumerate(machine.input_limits):
        numbers = [0] * size
        numbers[at] = 1
        numbers[machine.inputs + at] = 1
        equations.append((tuple(numbers), greatest - least))
    return equations


def weight_equation(start, count, size):
    """Return the equation that the sum of the weights from the start on is 1."""
    return ((0,) * start + (1,) * count + (0,) * (size - start - count), 1)


def next_equations(machine, points, corner, disturbance, start, size):
    """Return for each coordinate the equation that the weights from the start on mix the state behind the corner."""
    least = point_of([pair[0] for pair in machine.input_limits])
    equations = []
    for at in range(machine.states):
        numbers = [ZERO] * size
        for place, factor in enumerate(machine.matrix_b[at]):
            numbers[place] = (-factor, 1)
        for place, point in enumerate(points):
            numbers[start + place] = times(point[at], (machine.divisor, 1))
        moved = (dot(machine.matrix_a[at], corner), dot(machine.matrix_b[at], least),
                 dot(machine.matrix_e[at], disturbance))
        equations.append(whole_row(tuple(numbers), total(moved)))
    return equations


def kept(machine, points):
    """Return inputs and weights that show that the body is kept, or a corner with multipliers that it is lost."""
    inputs = []
    weights = []
    for number in range(len(points)):
        equations, size = equations_of(machine, points, number)
        word, shown = solved(equations, size)
        if word == "none":
            return ("lost", number, shown)
        inputs.append(inputs_in(machine, shown))
        weights.append(weights_in(shown[2 * machine.inputs:], len(points)))
    return ("kept", inputs, weights)


def inputs_in(machine, numbers):
    """Return the inputs that the numbers, which solve the equations, tell."""
    limits = machine.input_limits
    return tuple([added((least, 1), above) for (least, _), above in zip(limits, numbers)])


def weights_in(numbers, count):
    """Return the weights for each corner of the disturbances, count at a time."""
    return [numbers[start:start + count] for start in range(0, len(numbers), count)]


def judge_kept(machine, limits, points, paper):
    """Tell whether this is a paper that the body is kept, within the limits."""
    inputs, weights = paper
    if len(inputs) != len(points) or len(weights) != len(points):
        return False
    if any([first_broken(limits, point) is not None for point in points]):
        return False
    rows = zip(points, inputs, weights)
    return all([leads_back(machine, points, corner, chosen, mixes) for corner, chosen, mixes in rows])


def leads_back(machine, points, corner, inputs, mixes):
    """Tell whether the inputs are within their limits and the mixes are weights of all next states of the corner."""
    disturbances = corners_of(machine.disturbance_limits)
    if not machine.accepts(inputs) or len(mixes) != len(disturbances):
        return False
    states = [machine.step(corner, inputs, disturbance) for disturbance in disturbances]
    return all([is_mix(points, weights, state) for weights, state in zip(mixes, states)])


def is_mix(points, weights, state):
    """Tell whether the value is weights of the points that mix the state."""
    if not are_multipliers(weights, len(points)) or total(weights) != ONE:
        return False
    return mixed(weights, points) == state


def judge_lost(machine, points, paper):
    """Tell whether this is a paper that a corner of the body has no input that keeps it."""
    number, multipliers = paper
    if number < 0 or number >= len(points):
        return False
    equations, size = equations_of(machine, points, number)
    return is_unsolvable(equations, size, multipliers)
