"""Sums of papers, worked out here with Python's own fractions: they do not use the judges of the program."""

import math
from fractions import Fraction


def plain(value):
    """The number that a fraction of the program stands for; it must have the right form."""
    assert type(value) is tuple and len(value) == 2, value
    number, divisor = value
    assert type(number) is int and type(divisor) is int, value
    assert divisor >= 1 and math.gcd(number, divisor) == 1, value
    return Fraction(number, divisor)


def numbers_of(point, count):
    assert type(point) is tuple and len(point) == count, point
    return [plain(part) for part in point]


def product_sum(numbers, others):
    return sum((left * right for left, right in zip(numbers, others, strict=True)), Fraction(0))


def sums_of(rows, size, multipliers):
    """The sum of the tuples and the sum of the bounds, each row times its multiplier."""
    used = [(row, factor) for row, factor in zip(rows, multipliers, strict=True) if factor]
    sums = [sum((factor * row[0][at] for row, factor in used), Fraction(0)) for at in range(size)]
    return sums, sum((factor * row[1] for row, factor in used), Fraction(0))


def within(rows, numbers):
    return all(product_sum(a, numbers) <= b for a, b in rows)


def proves_best(rows, goal, value, point, multipliers):
    numbers = numbers_of(point, len(goal))
    factors = numbers_of(multipliers, len(rows))
    sums, bound = sums_of(rows, len(goal), factors)
    return (within(rows, numbers) and product_sum(goal, numbers) == plain(value) and min(factors, default=0) >= 0
            and sums == list(goal) and bound == plain(value))


def proves_none(rows, size, multipliers):
    factors = numbers_of(multipliers, len(rows))
    sums, bound = sums_of(rows, size, factors)
    return min(factors, default=0) >= 0 and not any(sums) and bound < 0


def proves_endless(rows, goal, point, ray):
    numbers = numbers_of(point, len(goal))
    steps = numbers_of(ray, len(goal))
    return (within(rows, numbers) and all(product_sum(a, steps) <= 0 for a, _ in rows)
            and product_sum(goal, steps) > 0)


def proves_solution(equations, size, point):
    numbers = numbers_of(point, size)
    return min(numbers, default=0) >= 0 and all(product_sum(a, numbers) == b for a, b in equations)


def proves_unsolvable(equations, size, multipliers):
    factors = numbers_of(multipliers, len(equations))
    sums, bound = sums_of(equations, size, factors)
    return min(sums, default=0) >= 0 and bound < 0


def proves(rows, goal, answer):
    """Whether an answer of best is of one of the three forms, with a right paper."""
    assert type(answer) is tuple
    judges = {"best": proves_best, "endless": proves_endless}
    if answer[0] == "none":
        return len(answer) == 2 and proves_none(rows, len(goal), answer[1])
    return judges[answer[0]](rows, goal, *answer[1:])


def told(number):
    """The fraction of the program that stands for a number: an integer, a fraction of Python or a string."""
    part = Fraction(number)
    return (part.numerator, part.denominator)


def point(*numbers):
    """The point with these coordinates."""
    return tuple(told(number) for number in numbers)


def proves_by(rows, row, multipliers):
    factors = numbers_of(multipliers, len(rows))
    sums, bound = sums_of(rows, len(row[0]), factors)
    return min(factors, default=0) >= 0 and sums == list(row[0]) and bound <= row[1]


def proves_not(rows, row, value):
    numbers = numbers_of(value, len(row[0]))
    return within(rows, numbers) and not within([row], numbers)


def proves_implication(rows, row, paper):
    """Whether an answer of implication is of one of the three forms, with a right paper."""
    assert type(paper) is tuple and len(paper) == 2, paper
    word, shown = paper
    if word == "none":
        return proves_none(rows, len(row[0]), shown)
    return {"by": proves_by, "not": proves_not}[word](rows, row, shown)


def are_weights(value, count):
    numbers = numbers_of(value, count)
    return min(numbers) >= 0 and sum(numbers) == 1


def mix_of(weights, points):
    """The sum of the points by the weights, as numbers."""
    factors = [plain(weight) for weight in weights]
    return [product_sum(factors, column) for column in zip(*(numbers_of(each, len(each)) for each in points))]


def parts(points, value, row):
    """Whether a row parts the point from the points."""
    assert type(row) is tuple and type(row[0]) is tuple, row
    assert all(type(number) is int for number in (*row[0], row[1])), row
    return (all(within([row], numbers_of(each, len(row[0]))) for each in points)
            and not within([row], numbers_of(value, len(row[0]))))
