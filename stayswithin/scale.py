"""The greatest multiple of a body that is within limits and kept, as a linear program."""

from stayswithin.fractions import ONE, ZERO, is_less, subtracted, times
from stayswithin.limits import corners_of
from stayswithin.points import dot
from stayswithin.programs import whole_row
from stayswithin.simplex import best


def size_of(machine, points):
    """Return how many numbers the program of multiples is about."""
    many = len(corners_of(machine.disturbance_limits))
    return 1 + len(points) * (machine.inputs + many * len(points))


def goal_of(machine, points):
    """Return the goal of the program of multiples."""
    return (1,) + (0,) * (size_of(machine, points) - 1)


def greatest_multiple(machine, limits, points):
    """Return the answer of best for the program of multiples."""
    return best(rows_of(machine, limits, points), goal_of(machine, points))


def rows_of(machine, limits, points):
    """Return the rows of the program of multiples."""
    size = size_of(machine, points)
    rows = [row_with([(0, (-1, 1))], ZERO, size)]
    for numbers, bound in limits:
        rows.append(row_with([(0, greatest_sum(numbers, points))], (bound, 1), size))
    for number in range(len(points)):
        rows.extend(input_rows(machine, number, size))
    disturbances = corners_of(machine.disturbance_limits)
    start = 1 + len(points) * machine.inputs
    for number in range(len(points)):
        for disturbance in disturbances:
            rows.extend(weight_rows(len(points), start, size))
            rows.extend(next_rows(machine, points, number, disturbance, start, size))
            start += len(points)
    return rows


def greatest_sum(numbers, points):
    """Return the greatest of the row of integers times each of the points."""
    # As no multiple is below 0, the corner with this sum meets a limit only if all of them do: one row serves.
    greatest = dot(numbers, points[0])
    for point in points[1:]:
        reached = dot(numbers, point)
        if is_less(greatest, reached):
            greatest = reached
    return greatest


def row_with(parts, bound, size):
    """Return the row with these fractions at their places and 0 elsewhere, made whole."""
    numbers = [ZERO] * size
    for place, part in parts:
        numbers[place] = part
    return whole_row(tuple(numbers), bound)


def both(parts, bound, size):
    """Return two rows that together say that the sum of the parts is the bound."""
    numbers, least = row_with(parts, bound, size)
    return [(numbers, least), (tuple([-number for number in numbers]), -least)]


def input_rows(machine, number, size):
    """Return the rows that say that the inputs of the corner with this index are within their limits."""
    rows = []
    first = 1 + number * machine.inputs
    for at, (least, greatest) in enumerate(machine.input_limits):
        rows.append(row_with([(first + at, ONE)], (greatest, 1), size))
        rows.append(row_with([(first + at, (-1, 1))], (-least, 1), size))
    return rows


def weight_rows(count, start, size):
    """Return the rows that say that the weights from the start on are not below 0 and their sum is the multiple."""
    places = range(start, start + count)
    rows = [row_with([(place, (-1, 1))], ZERO, size) for place in places]
    return rows + both([(0, (-1, 1))] + [(place, ONE) for place in places], ZERO, size)


def next_rows(machine, points, number, disturbance, start, size):
    """Return the rows that say that the weights from the start on mix what follows on the corner's multiple."""
    rows = []
    first = 1 + number * machine.inputs
    for at in range(machine.states):
        parts = [(0, subtracted(ZERO, dot(machine.matrix_a[at], points[number])))]
        parts.extend([(first + place, (-factor, 1)) for place, factor in enumerate(machine.matrix_b[at])])
        for place, point in enumerate(points):
            parts.append((start + place, times(point[at], (machine.divisor, 1))))
        rows.extend(both(parts, dot(machine.matrix_e[at], disturbance), size))
    return rows
