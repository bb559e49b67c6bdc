"""Machines: the next state is a linear function of the state, the inputs and the disturbance."""

from stayswithin.errors import BadMachine
from stayswithin.limits import are_numbers, are_pairs, is_number, lies_within
from stayswithin.points import image, scaled, sum_of

MOST_STATES = 3
MOST_INPUTS = 2
MOST_DISTURBANCES = 2
MOST_DIVISOR = 100


class Machine:
    """A machine with its matrices, its divisor and the limits of its inputs and disturbances."""

    def __init__(self, a, b, e, divisor, input_limits, disturbance_limits):
        self.matrix_a = a
        self.matrix_b = b
        self.matrix_e = e
        self.divisor = divisor
        self.input_limits = input_limits
        self.disturbance_limits = disturbance_limits
        self.states = width_of(a)
        self.inputs = width_of(b)
        self.disturbances = width_of(e)
        if not is_number(self.states, 1, MOST_STATES) or not is_matrix(a, self.states, self.states):
            raise BadMachine("a")
        if not is_number(self.inputs, 0, MOST_INPUTS) or not is_matrix(b, self.states, self.inputs):
            raise BadMachine("b")
        if not is_number(self.disturbances, 0, MOST_DISTURBANCES) or not is_matrix(e, self.states, self.disturbances):
            raise BadMachine("e")
        if not is_number(divisor, 1, MOST_DIVISOR):
            raise BadMachine("divisor")
        if not are_pairs(input_limits, self.inputs):
            raise BadMachine("input_limits")
        if not are_pairs(disturbance_limits, self.disturbances):
            raise BadMachine("disturbance_limits")

    def accepts(self, inputs):
        """Tell whether the inputs are within their limits."""
        return lies_within(self.input_limits, inputs)

    def allows(self, disturbance):
        """Tell whether the disturbance is within its limits."""
        return lies_within(self.disturbance_limits, disturbance)

    def step(self, state, inputs, disturbance):
        """Return the next state."""
        moved = sum_of(image(self.matrix_a, state), image(self.matrix_b, inputs))
        moved = sum_of(moved, image(self.matrix_e, disturbance))
        return scaled(moved, (1, self.divisor))

    def run(self, state, rows):
        """Return a new list of the state and those that the pairs of inputs and a disturbance lead to."""
        states = [state]
        for inputs, disturbance in rows:
            states.append(self.step(states[-1], inputs, disturbance))
        return states


def width_of(matrix):
    """Return the number of items in the first row of a matrix, or None if there is no such row."""
    if not isinstance(matrix, tuple) or len(matrix) == 0 or not isinstance(matrix[0], tuple):
        return None
    return len(matrix[0])


def is_matrix(value, height, width):
    """Tell whether a value is a tuple of that many rows, each with that many integers."""
    if not isinstance(value, tuple) or len(value) != height:
        return False
    return all([are_numbers(row, width) for row in value])
