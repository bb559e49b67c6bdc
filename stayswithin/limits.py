"""Limits: rows that states meet, and least and greatest numbers of inputs and disturbances."""

from stayswithin.errors import BadRow
from stayswithin.fractions import compared, is_whole
from stayswithin.points import point_of
from stayswithin.programs import is_within

MOST_ROWS = 16
MOST_NUMBER = 20
MOST_BOUND = 1000


def check_rows(rows, count):
    """Raise BadRow if the list or tuple is not limits of states with that many coordinates."""
    if len(rows) < 1 or len(rows) > MOST_ROWS:
        raise BadRow()
    for index, row in enumerate(rows):
        if not is_row(row, count):
            raise BadRow(index)


def is_row(value, count):
    """Tell whether a value is a row of limits of states with that many coordinates."""
    if not isinstance(value, tuple) or len(value) != 2:
        return False
    return are_numbers(value[0], count) and is_number(value[1], -MOST_BOUND, MOST_BOUND)


def is_number(value, least, greatest):
    """Tell whether a value is an integer from the least to the greatest one."""
    return is_whole(value) and least <= value <= greatest


def are_numbers(value, count):
    """Tell whether a value is a tuple of that many integers, none of them too far from 0."""
    if not isinstance(value, tuple) or len(value) != count:
        return False
    return all([is_number(number, -MOST_NUMBER, MOST_NUMBER) for number in value])


def are_pairs(value, count):
    """Tell whether a value is limits of that many inputs or disturbances."""
    if not isinstance(value, tuple) or len(value) != count:
        return False
    return all([are_numbers(pair, 2) and pair[0] <= pair[1] for pair in value])


def meets(row, point):
    """Tell whether the point meets the row."""
    return is_within((row,), point)


def first_broken(rows, point):
    """Return the index of the first row that the point breaks, or None."""
    for index, row in enumerate(rows):
        if not meets(row, point):
            return index
    return None


def corners_of(limits):
    """Return a new list of the corners of limits of inputs or disturbances, ascending."""
    corners = [()]
    for least, greatest in limits:
        ends = [least] if least == greatest else [least, greatest]
        corners = [(*corner, number) for corner in corners for number in ends]
    return [point_of(corner) for corner in corners]


def lies_within(limits, point):
    """Tell whether the point is within limits of inputs or disturbances."""
    if len(point) != len(limits):
        return False
    for (least, greatest), part in zip(limits, point):
        if compared(part, (least, 1)) < 0 or compared(part, (greatest, 1)) > 0:
            return False
    return True
