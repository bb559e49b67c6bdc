"""Turning a table until it shows a best value, that there is none, or that it is endless.

Where two turns are as good, tiny numbers decide: as if each head of the start were greater
by a tiny number (or each column of the start cost a tiny number more), each far tinier than
the one before it. With them every turn gains something, so no table comes twice and turning
ends, also where many rows meet in one point.
"""

from stayswithin.table import COST, FREE, GOAL, NOT_BELOW, NOUGHT, Table


def settled(lines, kinds):
    """Return a turned table, the word for what it shows, and the line or column that shows it.

    The word is "best", "none" or "endless". A rough table is tried first: exact lines can get
    long, so that it is quicker to begin anew with the columns that the rough table has found.
    """
    table = Table(lines, kinds, True)
    word, place = shown(table, [False] * len(kinds))
    if not table.exact:
        wanted = [False] * len(kinds)
        for number in table.columns:
            wanted[number] = True
        table = Table(lines, kinds, False)
        word, place = shown(table, wanted)
    return table, word, place


def shown(table, wanted):
    """Turn the table, first so that the wanted numbers become columns; return the word and the place."""
    free_columns(table, wanted)
    at = clear_heads(table, wanted)
    if at is None:
        at = lift_heads(table)
    if at is not None:
        return "none", at
    column = raise_goal(table)
    if column is not None:
        return "endless", column
    return "best", GOAL


def free_columns(table, wanted):
    """Make each free column a head, if some line allows it."""
    for column in range(1, len(table.columns) + 1):
        if table.column_kind(column) == FREE:
            at = line_for(table, column, wanted)
            if at is not None:
                table.turn(at, column)


def line_for(table, column, wanted):
    """Return the index of a line to turn with a free column, or None; short lines keep the others short."""
    chosen = None
    least = None
    for at, line in enumerate(table.lines):
        if line[column] != 0 and table.head_kind(at) != FREE:
            length = (not wanted[table.heads[at]], len(line) - line.count(0), line[column].bit_length())
            if least is None or length < least:
                chosen, least = at, length
    return chosen


def clear_heads(table, wanted):
    """Make each head that is 0 alone a column; return the index of a line that cannot hold, or None."""
    for at in range(len(table.lines)):
        if table.head_kind(at) == NOUGHT:
            column = column_for(table, at, wanted)
            if column is not None:
                table.turn(at, column)
            elif table.lines[at][0] != 0:
                return at
    return None


def column_for(table, at, wanted):
    """Return the index of a column to turn with a line whose head is 0 alone, or None."""
    chosen = None
    least = None
    line = table.lines[at]
    for column in range(1, len(line) - 1):
        if line[column] != 0 and table.column_kind(column) == NOT_BELOW:
            length = (wanted[table.columns[column - 1]], line[column].bit_length())
            if least is None or length < least:
                chosen, least = column, length
    return chosen


def lift_heads(table):
    """Turn until no head is below 0 that must not be; return None, or the index of a line that forbids it.

    The cost is minus the sum of the columns of the start. Always the cheapest column is taken,
    so no column of its line comes above 0, and its first item falls until there is no step left.
    """
    order = list(table.columns)
    kinds = [table.kinds[number] for number in order]
    table.lines[COST] = [0] + [-1 if kind == NOT_BELOW else 0 for kind in kinds] + [1]
    while not table.is_spent():
        at = deepest_line(table)
        if at is None:
            return None
        column = cheapest_column(table, at, order)
        if column is None:
            return at
        table.turn(at, column)
    return None


def deepest_line(table):
    """Return the index of the line whose head is farthest below 0 and must not be, or None."""
    chosen = None
    most = None
    for at, line in enumerate(table.lines):
        if line[0] < 0 and table.head_kind(at) == NOT_BELOW:
            depth = depth_of(line)
            if most is None or depth > most:
                chosen, most = at, depth
    return chosen


def depth_of(line):
    """Return how far the head of a line is below 0, as measured by the greatest of its other items."""
    items = line[1:-1]
    greatest = max(max(items, default=0), -min(items, default=0), 1)
    return (-line[0] << 64) // greatest


def cheapest_column(table, at, order):
    """Return the index of the column that lifts the head of the line and costs the least, or None."""
    line = table.lines[at]
    cost = table.lines[COST]
    chosen = None
    for column in range(1, len(line) - 1):
        if line[column] > 0 and table.column_kind(column) == NOT_BELOW:
            if chosen is None:
                chosen = column
                continue
            gap = cost[chosen] * line[column] - cost[column] * line[chosen]
            if gap < 0 or gap == 0 and is_cheaper(table, line, column, chosen, order):
                chosen = column
    return chosen


def is_cheaper(table, line, one, two, order):
    """Tell which of two columns of the same cost is cheaper with the tiny numbers."""
    places = {head: at for at, head in enumerate(table.heads)}
    for number in order:
        if number == table.columns[one - 1]:
            return False
        if number == table.columns[two - 1]:
            return True
        if number in places:
            other = table.lines[places[number]]
            gap = other[one] * line[two] - other[two] * line[one]
            if gap != 0:
                return gap < 0
    return False


def raise_goal(table):
    """Turn until nothing raises the goal; return None, or the index of a column that does so for ever."""
    order = [head for head in table.heads if table.kinds[head] == NOT_BELOW]
    while not table.is_spent():
        column = steepest_column(table)
        if column is None:
            return None
        at = first_line(table, column, order)
        if at is None:
            return column
        table.turn(at, column)
    return None


def steepest_column(table):
    """Return the index of the column that raises the goal the most, or None."""
    goal = table.lines[GOAL]
    chosen = None
    for column in range(1, len(goal) - 1):
        kind = table.column_kind(column)
        if kind == FREE and goal[column] != 0:
            return column
        if kind == NOT_BELOW and goal[column] > 0 and (chosen is None or goal[column] > goal[chosen]):
            chosen = column
    return chosen


def first_line(table, column, order):
    """Return the index of the line whose head is the first to come down to 0 as the column rises, or None."""
    chosen = None
    for at, line in enumerate(table.lines):
        if line[column] < 0 and table.head_kind(at) == NOT_BELOW:
            if chosen is None:
                chosen = at
                continue
            other = table.lines[chosen]
            gap = other[0] * line[column] - line[0] * other[column]
            if gap < 0 or gap == 0 and is_sooner(table, at, chosen, column, order):
                chosen = at
    return chosen


def is_sooner(table, one, two, column, order):
    """Tell which of two heads that come down together is the first one with the tiny numbers."""
    first = table.lines[one]
    second = table.lines[two]
    places = {number: at for at, number in enumerate(table.columns, 1)}
    for number in order:
        if number == table.heads[one]:
            return False
        if number == table.heads[two]:
            return True
        if number in places:
            at = places[number]
            gap = first[at] * second[column] - second[at] * first[column]
            if gap != 0:
                return gap < 0
    return False
