"""Points, which are tuples of fractions, with rows, matrices and weights."""

from stayswithin.errors import BadPoint, BadWeights
from stayswithin.fractions import ONE, added, common_divisor_of, fraction, is_fraction, times, total


def is_point(value, count):
    """Tell whether a value is a point with that many coordinates."""
    if not isinstance(value, tuple) or len(value) != count:
        return False
    return all([is_fraction(part) for part in value])


def check_points(points, count):
    """Raise BadPoint with the index of the first item that is not such a point."""
    for index, point in enumerate(points):
        if not is_point(point, count):
            raise BadPoint(index)


def point_of(numbers, divisor=1):
    """Return the point of the integers, each divided by the divisor, which is not 0."""
    return tuple([fraction(number, divisor) for number in numbers])


def sum_of(first, second):
    """Return the sum of two points with as many coordinates."""
    return tuple([added(left, right) for left, right in zip(first, second)])


def scaled(point, factor):
    """Return a point times a fraction."""
    return tuple([times(part, factor) for part in point])


def dot(row, point):
    """Return a row of integers times a point, a fraction."""
    common, numbers = integers_of(point)
    products = [factor * number for factor, number in zip(row, numbers)]
    return fraction(sum(products), common)


def image(matrix, point):
    """Return a matrix times a point, a point."""
    return tuple([dot(row, point) for row in matrix])


def check_weights(weights, count):
    """Raise BadWeights if the value is not weights for that many points."""
    if not isinstance(weights, tuple) or len(weights) != count:
        raise BadWeights()
    for index, weight in enumerate(weights):
        if not is_fraction(weight) or weight[0] < 0:
            raise BadWeights(index)
    if total(weights) != ONE:
        raise BadWeights()


def mixed(weights, points):
    """Return the sum of the points, at least one, each times its weight."""
    mix = scaled(points[0], weights[0])
    for weight, point in zip(weights[1:], points[1:]):
        mix = sum_of(mix, scaled(point, weight))
    return mix


def integers_of(point):
    """Return the least factor from 1 on that makes all coordinates integers, and these integers."""
    common = common_divisor_of(point)
    return (common, tuple([number * (common // divisor) for number, divisor in point]))
