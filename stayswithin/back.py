"""Rows drawn back: what a state must meet so that the next one meets a row, whatever the disturbance is."""

from stayswithin.fractions import greatest_divisor


def times_columns(numbers, matrix, width):
    """Return the integers times a matrix with that many columns, a list of integers."""
    return [sum([number * line[column] for number, line in zip(numbers, matrix)]) for column in range(width)]


def worst_disturbance(machine, numbers):
    """Return the integers of the disturbance that adds the most to the integers times the next state."""
    shares = times_columns(numbers, machine.matrix_e, machine.disturbances)
    pairs = zip(shares, machine.disturbance_limits)
    return tuple([greatest if share > 0 else least for share, (least, greatest) in pairs])


def drawn_back(machine, row):
    """Return the row that a state meets exactly if the next state always meets the row."""
    numbers, bound = row
    before = times_columns(numbers, machine.matrix_a, machine.states)
    shares = times_columns(numbers, machine.matrix_e, machine.disturbances)
    added_most = sum([share * part for share, part in zip(shares, worst_disturbance(machine, numbers))])
    return divided_row(before, machine.divisor * bound - added_most)


def divided_row(numbers, bound):
    """Return the row with all its integers divided by their greatest common divisor, if they are not all 0."""
    shared = bound
    for number in numbers:
        shared = greatest_divisor(shared, number)
    if shared == 0:
        return (tuple(numbers), bound)
    return (tuple([number // shared for number in numbers]), bound // shared)
