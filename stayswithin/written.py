"""Machines with limits of their states, and lists of points, as text."""

from stayswithin.errors import BadLine
from stayswithin.fractions import is_fraction
from stayswithin.limits import check_rows
from stayswithin.machine import Machine

# The words with which lines begin, in the order of their lines.
WORDS = ("a", "b", "e", "divisor", "input", "disturbance", "row")

DIGITS = "0123456789"
MOST_DIGITS = 6
MOST_DIGITS_OF_POINTS = 60

# Long numbers are written this many digits at a time.
PART_DIGITS = 64
PART = 10 ** 64


def format_machine(machine, rows):
    """Return the text that writes a machine and a list of rows as limits of its states."""
    lines = []
    for word, matrix in (("a", machine.matrix_a), ("b", machine.matrix_b), ("e", machine.matrix_e)):
        lines.extend([line_of(word, numbers) for numbers in matrix])
    lines.append(line_of("divisor", (machine.divisor,)))
    lines.extend([line_of("input", pair) for pair in machine.input_limits])
    lines.extend([line_of("disturbance", pair) for pair in machine.disturbance_limits])
    lines.extend([line_of("row", (*numbers, bound)) for numbers, bound in rows])
    return "\n".join(lines)


def line_of(word, numbers):
    """Return the line of a word and numbers."""
    return " ".join([word] + [digits_of(number) for number in numbers])


def digits_of(number):
    """Return an integer as it is written."""
    # Python's own str() refuses integers with thousands of digits.
    rest = abs(number)
    parts = []
    while rest >= PART:
        rest, part = divmod(rest, PART)
        parts.append(str(part).zfill(PART_DIGITS))
    parts.append(str(rest))
    if number < 0:
        parts.append("-")
    return "".join(reversed(parts))


def parse_machine(text):
    """Return the machine and the list of rows that a text writes."""
    lines = text.split("\n")
    told = {word: [] for word in WORDS}
    latest = 0
    for index, line in enumerate(lines):
        word, numbers = read_line(line)
        if word is None or WORDS.index(word) < latest or (word == "divisor" and told[word]):
            raise BadLine(index)
        latest = WORDS.index(word)
        told[word].append(numbers)
    if not told["divisor"]:
        raise BadLine(len(lines))
    machine = Machine(tuple(told["a"]), tuple(told["b"]), tuple(told["e"]), told["divisor"][0][0],
                      tuple(told["input"]), tuple(told["disturbance"]))
    rows = [(numbers[:-1], numbers[-1]) for numbers in told["row"]]
    check_rows(rows, machine.states)
    return (machine, rows)


def read_line(line):
    """Return the word of a line and the tuple of its numbers; two times None if the line has not its form."""
    words = line.split(" ")
    numbers = tuple([read_number(word, MOST_DIGITS) for word in words[1:]])
    if words[0] not in WORDS or None in numbers or not is_length_of(words[0], len(numbers)):
        return (None, None)
    return (words[0], numbers)


def is_length_of(word, count):
    """Tell whether a line with this word may have that many numbers."""
    if word == "divisor":
        return count == 1
    if word == "input" or word == "disturbance":
        return count == 2
    return word != "row" or count >= 1


def read_number(word, most):
    """Return the integer that a word writes with at most so many digits, or None."""
    digits = word.removeprefix("-")
    if len(digits) < 1 or len(digits) > most or any([sign not in DIGITS for sign in digits]):
        return None
    # A leading zero, or a minus before 0.
    if digits[0] == "0" and word != "0":
        return None
    return int(word)


def format_points(points):
    """Return the text that writes a list of points with at least one coordinate."""
    return "\n".join([" ".join([fraction_word(part) for part in point]) for point in points])


def fraction_word(part):
    """Return a fraction as it is written."""
    number, divisor = part
    if divisor == 1:
        return digits_of(number)
    return f"{digits_of(number)}/{digits_of(divisor)}"


def parse_points(text):
    """Return the list of points that a text writes."""
    if text == "":
        return []
    points = []
    for index, line in enumerate(text.split("\n")):
        point = tuple([read_fraction(word) for word in line.split(" ")])
        if None in point:
            raise BadLine(index)
        points.append(point)
    return points


def read_fraction(word):
    """Return the fraction that a word writes, or None."""
    parts = [read_number(part, MOST_DIGITS_OF_POINTS) for part in word.split("/")]
    if None in parts or len(parts) > 2:
        return None
    if len(parts) == 1:
        return (parts[0], 1)
    value = (parts[0], parts[1])
    # A divisor of 1 is not written.
    return value if is_fraction(value) and value[1] != 1 else None
