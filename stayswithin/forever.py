"""Whether a machine without inputs stays within limits for ever, whatever the disturbances are."""

from stayswithin.back import drawn_back, worst_disturbance
from stayswithin.bodies import implied, judge_implied
from stayswithin.errors import TooManySteps
from stayswithin.fractions import ONE, ZERO
from stayswithin.hulls import hull_outside
from stayswithin.limits import first_broken
from stayswithin.points import point_of

STEPS_MOST = 12


def forever(machine, limits, starts):
    """Return the fewest disturbances that lead to a broken limit, or a paper that none do."""
    rows = []
    level = list(limits)
    for _ in range(STEPS_MOST):
        rows = rows + level
        broken = hull_outside(starts, level)
        if broken is not None:
            limit, start = broken
            return ("breaks", start, limit, disturbances_to(machine, rows, limit, len(limits)))
        following = [drawn_back(machine, row) for row in level]
        papers = all_implied(following, rows)
        if papers is not None:
            return ("within", rows, followed(len(rows), len(limits)) + papers)
        level = following
    raise TooManySteps(STEPS_MOST)


def disturbances_to(machine, rows, limit, count):
    """Return the disturbances that lead to the broken limit, one for each level but the last one in the rows."""
    used = rows[limit:len(rows) - count:count]
    return [point_of(worst_disturbance(machine, numbers)) for numbers, _ in reversed(used)]


def all_implied(following, rows):
    """Return multipliers for each of the following rows, or None if one of them does not follow from the rows."""
    papers = []
    for row in following:
        multipliers = implied(row, rows)
        if multipliers is None:
            return None
        papers.append(multipliers)
    return papers


def followed(many, count):
    """Return the multipliers of the rows, of that many, behind which the row drawn back stands count places on."""
    papers = []
    for place in range(count, many):
        papers.append(tuple([ONE if at == place else ZERO for at in range(many)]))
    return papers


def judge_within(machine, limits, starts, paper):
    """Tell whether this is a paper that no disturbances lead from a start to a broken limit."""
    rows, papers = paper
    if len(papers) != len(rows) or any([len(numbers) != machine.states for numbers, _ in rows]):
        return False
    if any([limit not in rows for limit in limits]):
        return False
    if any([first_broken(rows, state) is not None for state in starts]):
        return False
    pairs = zip(rows, papers)
    return all([judge_implied(drawn_back(machine, row), rows, multipliers) for row, multipliers in pairs])


def judge_breaks(machine, limits, start, disturbances):
    """Tell whether the disturbances are within their limits and lead from the start to a broken limit."""
    if not all([machine.allows(disturbance) for disturbance in disturbances]):
        return False
    states = machine.run(start, [((), disturbance) for disturbance in disturbances])
    return first_broken(limits, states[-1]) is not None
