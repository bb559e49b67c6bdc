"""Hulls of points: weights that mix a point, and rows that part a point from points."""

from stayswithin.fractions import common_divisor_of, times
from stayswithin.limits import meets
from stayswithin.programs import whole_row
from stayswithin.simplex import solved


def mixing(points, point):
    """Return the equations that weights solve if they mix the point: their sum is 1, then each coordinate."""
    equations = [((1,) * len(points), 1)]
    for at, part in enumerate(point):
        equations.append(whole_row(tuple([other[at] for other in points]), part))
    return equations


def weights_of(points, point):
    """Return weights by which the point is the sum of the points, or None if it is not in their hull."""
    word, shown = solved(mixing(points, point), len(points))
    return shown if word == "point" else None


def parted(points, point):
    """Return a row that parts the point from the points, or None if it is in their hull."""
    word, shown = solved(mixing(points, point), len(points))
    return parting_row(points, point, shown) if word == "none" else None


def parting_row(points, point, multipliers):
    """Return the row that is told by multipliers which show that no weights mix the point."""
    # By them the equations add up to what is not below 0 for each of the points, and below 0 for the point.
    numbers = []
    for at, part in enumerate(point):
        # The equation of this coordinate is not the coordinate itself, but this many times it.
        factor = common_divisor_of([part] + [other[at] for other in points])
        numbers.append(times(multipliers[at + 1], (-factor, 1)))
    return whole_row(tuple(numbers), multipliers[0])


def judge_parted(points, point, row):
    """Tell whether the row parts the point from the points."""
    if len(row[0]) != len(point):
        return False
    return all([meets(row, other) for other in points]) and not meets(row, point)


def needed(points):
    """Return the indexes of the needed points, ascending."""
    there = list(range(len(points)))
    for index in reversed(range(len(points))):
        others = [at for at in there if at != index]
        if others and weights_of([points[at] for at in others], points[index]) is not None:
            there = others
    return tuple(there)


def hull_outside(points, rows):
    """Return the index of the first row that not all points meet and of the first such point, or None."""
    for index, row in enumerate(rows):
        for place, point in enumerate(points):
            if not meets(row, point):
                return (index, place)
    return None


def same_hull(points, others):
    """Tell whether both hulls have the same points."""
    return holds(points, others) and holds(others, points)


def holds(points, others):
    """Tell whether all of the others are in the hull of the points."""
    return all([weights_of(points, other) is not None for other in others])
