"""The papers of linear programs: judges of them, and sums of rows by multipliers."""

from stayswithin.fractions import ZERO, compared, fraction, is_fraction, is_less
from stayswithin.points import dot, integers_of, is_point, point_of


def is_best(rows, goal, value, point, multipliers):
    """Tell whether this is a paper that the value is the best one."""
    size = len(goal)
    if not is_fraction(value) or not is_point(point, size) or not are_multipliers(multipliers, len(rows)):
        return False
    if not is_within(rows, point) or dot(goal, point) != value:
        return False
    return combined(rows, size, multipliers) == (point_of(goal), value)


def is_none(rows, size, multipliers):
    """Tell whether this is a paper that no point is within the rows."""
    if not are_multipliers(multipliers, len(rows)):
        return False
    sums, bound = combined(rows, size, multipliers)
    return sums == (ZERO,) * size and is_less(bound, ZERO)


def is_endless(rows, goal, point, ray):
    """Tell whether this is a paper that the goal can be as great as one likes."""
    size = len(goal)
    if not is_point(point, size) or not is_point(ray, size) or not is_within(rows, point):
        return False
    if any([is_less(ZERO, dot(numbers, ray)) for numbers, _ in rows]):
        return False
    return is_less(ZERO, dot(goal, ray))


def is_solution(equations, size, point):
    """Tell whether this is a point without coordinates below 0 that solves the equations."""
    if not is_point(point, size) or not is_not_below(point):
        return False
    return all([dot(numbers, point) == (bound, 1) for numbers, bound in equations])


def is_unsolvable(equations, size, multipliers):
    """Tell whether this is a paper that no point without coordinates below 0 solves the equations."""
    if not is_point(multipliers, len(equations)):
        return False
    sums, bound = combined(equations, size, multipliers)
    return is_not_below(sums) and is_less(bound, ZERO)


def is_within(rows, point):
    """Tell whether the point is within the rows."""
    return all([compared(dot(numbers, point), (bound, 1)) <= 0 for numbers, bound in rows])


def is_not_below(point):
    """Tell whether no coordinate of the point is below 0."""
    return not any([is_less(part, ZERO) for part in point])


def are_multipliers(value, count):
    """Tell whether a value is a tuple of that many fractions, none below 0."""
    return is_point(value, count) and is_not_below(value)


def combined(rows, size, multipliers):
    """Return the sum of the tuples and the sum of the bounds of the rows, each times its multiplier."""
    # Over one common divisor the sums are put into lowest terms once, not at every row.
    common, factors = integers_of(multipliers)
    sums = [0] * size
    bound_sum = 0
    for (numbers, bound), factor in zip(rows, factors):
        if factor != 0:
            sums = [part + factor * number for part, number in zip(sums, numbers)]
            bound_sum += factor * bound
    return (point_of(sums, common), fraction(bound_sum, common))


def whole_row(point, bound):
    """Return the point and the bound as a row, times the least factor from 1 on that makes them integers."""
    _, numbers = integers_of((*point, bound))
    return (numbers[:-1], numbers[-1])
