"""Linear programs over exact fractions, with papers that show each answer."""

from stayswithin.fractions import ONE, ZERO, fraction
from stayswithin.points import scaled
from stayswithin.settling import settled
from stayswithin.table import FIRST_ROW, FREE, GOAL, NOT_BELOW, NOUGHT


def best(rows, goal):
    """Return the best value of the goal within the rows, or that there is none, or that it is endless."""
    size = len(goal)
    table, word, place = settled(lines_of(rows, goal), kinds_of(rows, size, FREE, NOT_BELOW))
    if word == "none":
        return ("none", multipliers_in(table, place, size))
    point = point_in(table, size)
    if word == "endless":
        return ("endless", point, ray_in(table, place, size))
    value = value_at(table, GOAL, 0)
    return ("best", value, point, multipliers_in(table, GOAL, size))


def found(rows, size):
    """Return a point within the rows, or that there is none."""
    answer = best(rows, (0,) * size)
    if answer[0] == "none":
        return answer
    return ("point", answer[2])


def solved(equations, size):
    """Return a point without coordinates below 0 that solves the equations, or that there is none."""
    kinds = kinds_of(equations, size, NOT_BELOW, NOUGHT)
    table, word, place = settled(lines_of(equations, (0,) * size), kinds)
    if word != "none":
        return ("point", point_in(table, size))
    multipliers = multipliers_in(table, place, size)
    # A line that says that 0 is above 0 shows it as well as one that says that 0 is below 0.
    if table.lines[place][0] > 0:
        multipliers = scaled(multipliers, (-1, 1))
    return ("none", multipliers)


def lines_of(rows, goal):
    """Return the lines of a table: the goal, no cost, and the gap b - a . x of each row."""
    size = len(goal)
    lines = [[0] + list(goal) + [1], [0] * (size + 1) + [1]]
    for numbers, bound in rows:
        lines.append([bound] + [-number for number in numbers] + [1])
    return lines


def kinds_of(rows, size, variable, gap):
    """Return what the numbers of the table may be: the variables, the goal, the cost and the gaps."""
    return [variable] * size + [FREE] * FIRST_ROW + [gap] * len(rows)


def value_at(table, at, column):
    """Return an item of a line as a fraction, as it is for one time the head."""
    line = table.lines[at]
    return fraction(line[column], line[-1])


def multipliers_in(table, at, size):
    """Return the multipliers that a line shows: how often it takes the gap of each row away."""
    first = size + FIRST_ROW
    multipliers = [ZERO] * (len(table.lines) - FIRST_ROW)
    for column, number in enumerate(table.columns, 1):
        if number >= first:
            share = value_at(table, at, column)
            multipliers[number - first] = (-share[0], share[1])
    if table.heads[at] >= first:
        multipliers[table.heads[at] - first] = ONE
    return tuple(multipliers)


def point_in(table, size):
    """Return the variables if all columns are 0."""
    return variables_at(table, 0, size)


def ray_in(table, column, size):
    """Return how the variables change as the column goes where the goal rises."""
    ray = list(variables_at(table, column, size))
    if table.columns[column - 1] < size:
        ray[table.columns[column - 1]] = ONE
    if table.lines[GOAL][column] < 0:
        return scaled(ray, (-1, 1))
    return tuple(ray)


def variables_at(table, column, size):
    """Return the items of this index in the lines of the variables, 0 for those without a line."""
    point = [ZERO] * size
    for at, head in enumerate(table.heads):
        if head < size:
            point[head] = value_at(table, at, column)
    return tuple(point)
