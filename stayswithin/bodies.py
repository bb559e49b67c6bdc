"""Bodies of rows: what follows from rows, with papers, and which rows a body needs."""

from stayswithin.errors import NoPoint
from stayswithin.fractions import ONE, added, compared, divided, subtracted
from stayswithin.limits import meets
from stayswithin.points import dot, is_point, point_of, scaled, sum_of
from stayswithin.programs import are_multipliers, combined, is_none, is_within
from stayswithin.simplex import best, found


def implication(rows, row):
    """Return a paper on whether the row follows from the rows."""
    numbers, bound = row
    answer = best(rows, numbers)
    if answer[0] == "none":
        return answer
    if answer[0] == "endless":
        return ("not", point_beyond(row, answer[1], answer[2]))
    _, value, point, multipliers = answer
    if compared(value, (bound, 1)) <= 0:
        return ("by", multipliers)
    return ("not", point)


def point_beyond(row, point, ray):
    """Return a point that does not meet the row, on the ray from the point along which the row's sum grows."""
    if not meets(row, point):
        return point
    numbers, bound = row
    gap = subtracted((bound, 1), dot(numbers, point))
    steps = added(divided(gap, dot(numbers, ray)), ONE)
    return sum_of(point, scaled(ray, steps))


def judge_implication(rows, row, paper):
    """Tell whether this is a paper on whether the row follows from the rows."""
    if not isinstance(paper, tuple) or len(paper) != 2:
        return False
    word, shown = paper
    size = len(row[0])
    if word == "by":
        return judge_implied(row, rows, shown)
    if word == "none":
        return is_none(rows, size, shown)
    if word == "not":
        return is_point(shown, size) and is_within(rows, shown) and not meets(row, shown)
    return False


def implication_with_point(rows, row):
    """Return a paper on whether the row follows; raise NoPoint if the body of the rows has no point."""
    paper = implication(rows, row)
    if paper[0] == "none":
        raise NoPoint()
    return paper


def implied(row, rows):
    """Return multipliers that show that the row follows from the rows, or None."""
    word, shown = implication_with_point(rows, row)
    return shown if word == "by" else None


def escaping(row, rows):
    """Return a point of the body that does not meet the row, or None."""
    word, shown = implication_with_point(rows, row)
    return shown if word == "not" else None


def judge_implied(row, rows, multipliers):
    """Tell whether these are multipliers that show that the row follows from the rows."""
    numbers, bound = row
    if not are_multipliers(multipliers, len(rows)):
        return False
    sums, least = combined(rows, len(numbers), multipliers)
    return sums == point_of(numbers) and compared(least, (bound, 1)) <= 0


def some_point(rows):
    """Return a point of the body of the rows, at least one; raise NoPoint if there is none."""
    word, shown = found(rows, len(rows[0][0]))
    if word == "none":
        raise NoPoint()
    return shown


def least_rows(rows):
    """Return the indexes of the least rows, ascending."""
    there = list(range(len(rows)))
    if there:
        some_point(rows)
    for index in reversed(range(len(rows))):
        others = [at for at in there if at != index]
        if implied(rows[index], [rows[at] for at in others]) is not None:
            there = others
    return tuple(there)


def tight_rows(rows):
    """Return the indexes of the rows that all points of the body meet with equality, ascending."""
    if len(rows) == 0:
        return ()
    point = some_point(rows)
    return tuple([index for index, row in enumerate(rows) if is_tight(rows, row, point)])


def is_tight(rows, row, point):
    """Tell whether all points of the body, of which one is known, meet the row with equality."""
    numbers, bound = row
    # The known point spares a linear program for each row that it meets with less.
    if dot(numbers, point) != (bound, 1):
        return False
    against = (tuple([-number for number in numbers]), -bound)
    return implied(against, rows) is not None


def outside(rows, others):
    """Return the index of the first of the others that a point of the body does not meet, with the point, or None."""
    if len(rows) > 0:
        some_point(rows)
    for index, row in enumerate(others):
        point = escaping(row, rows)
        if point is not None:
            return (index, point)
    return None


def same_body(rows, others):
    """Tell whether both bodies have the same points."""
    # Behind the first half all points of the rows meet the others: these have a point too, and do not raise NoPoint.
    return outside(rows, others) is None and outside(others, rows) is None
