"""Tables: some numbers, the heads, are told by other numbers, the columns."""

from math import gcd

# What a number of a table may be: any number, one that is not below 0, or 0 alone.
FREE = 0
NOT_BELOW = 1
NOUGHT = 2

# The index of the line of the goal, of the line of the cost, and of the line of the first row.
GOAL = 0
COST = 1
FIRST_ROW = 2

# A rough table keeps so many bits of a line. So many of the last ones may be wrong,
# and what has no more bits than these stands for 0.
ROUGH_BITS = 256
NOISE_BITS = 80

# A rough table is given up behind so many turns for each line and each column.
ROUGH_TURNS = 4


class Table:
    """Lines of integers, each with a head, and columns.

    The line [c, k, .., k, d], whose last item is above 0, says: d times its head is c,
    plus the sum of the items k, each times its column. A head or a column is the number
    of an entry of `kinds`, which tells what it may be.

    A rough table drops the last bits of long lines, and is not exact any more from then on.
    """

    def __init__(self, lines, kinds, rough):
        width = len(lines[GOAL]) - 2
        self.lines = list(lines)
        self.kinds = kinds
        self.columns = list(range(width))
        self.heads = list(range(width, width + len(lines)))
        self.rough = rough
        self.exact = True
        self.turns = 0

    def head_kind(self, at):
        """Return what the head of the line with this index may be."""
        return self.kinds[self.heads[at]]

    def column_kind(self, column):
        """Return what the column with this index in a line, from 1 on, may be."""
        return self.kinds[self.columns[column - 1]]

    def turn(self, at, column):
        """Exchange the head of a line and a column that has an item other than 0 in it."""
        turned = turned_line(self.lines[at], column)
        for other in range(len(self.lines)):
            if other != at and self.lines[other][column] != 0:
                self.lines[other] = self.shortened(put_in(self.lines[other], turned, column))
        self.lines[at] = turned
        head = self.heads[at]
        self.heads[at] = self.columns[column - 1]
        self.columns[column - 1] = head
        self.turns += 1

    def shortened(self, line):
        """Return the line in lowest terms; if the table is rough, with no more bits than it keeps."""
        line = lowest(line)
        if not self.rough:
            return line
        spare = max(max(line), -min(line)).bit_length() - ROUGH_BITS
        if spare > 0:
            self.exact = False
        if self.exact:
            return line
        return rounded(line, spare)

    def is_spent(self):
        """Tell whether a table that is not exact has been turned too often to go on."""
        return not self.exact and self.turns > ROUGH_TURNS * (len(self.lines) + len(self.columns))


def turned_line(line, column):
    """Return the line that tells this column by the head of the line and the other columns."""
    factor = line[column]
    if factor > 0:
        turned = [-number for number in line]
        turned[column] = line[-1]
    else:
        turned = list(line)
        turned[column] = -line[-1]
    turned[-1] = abs(factor)
    return turned


def put_in(line, turned, column):
    """Return the line with the column replaced by what the turned line says of it."""
    shared = gcd(line[column], turned[-1])
    keep = turned[-1] // shared
    add = line[column] // shared
    made = [keep * number + add * other for number, other in zip(line, turned)]
    made[column] = add * turned[column]
    made[-1] = keep * line[-1]
    return made


def lowest(line):
    """Return the line divided by what all its items share: without this they would grow at each turn."""
    shared = 0
    for number in line:
        shared = gcd(shared, number)
        if shared == 1:
            return line
    return [number // shared for number in line]


def rounded(line, spare):
    """Return the line without the spare last bits, and with 0 for what may only be a rounding error."""
    noise = spare + NOISE_BITS
    spare = max(spare, 0)
    half = (1 << spare) >> 1
    made = [(number + half) >> spare if number.bit_length() > noise else 0 for number in line]
    # The last item has to stay above 0.
    made[-1] = max((line[-1] + half) >> spare, 1)
    return made
