"""Values for the judges: papers bent in one part, and values that are none at all."""

from fractions import Fraction

# Values that are no fractions, and values that are no tuples of fractions, whatever their length.
NO_FRACTIONS = (
    None, True, False, 0, 1, 11, "", "1", "11", (), (1,), (1, 1, 1), [1, 1], (2, 2), (22, 2), (0, 2), (1, 0), (-1, -1),
    (11, -1), (True, 1), (1, True), (1, None), ("1", 1), ((1, 1), 1), ((1, 1),), ((1, 1), (1, 1)), [(1, 1)])
NO_POINTS = (None, True, False, 0, 1, 2, "", "a", "ab", [], [(1, 1)], [(1, 1), (1, 1)], (1, 1), (1, 2), ("a", "b"))
LONG = 10 ** 90 + 1


def bent(value):
    """Values that differ from a tuple of fractions in one part, in its form: none of them is a paper."""
    yield from NO_POINTS
    yield list(value)
    yield value[:-1]
    yield (*value, (0, 1))
    yield ((0, 1), *value)
    yield (value,)
    for at, (number, divisor) in enumerate(value):
        for odd in (*NO_FRACTIONS, [number, divisor], (2 * number, 2 * divisor), (-number, -divisor), number,
                    (number, divisor, 1), (str(number), divisor), ((number, divisor),)):
            yield (*value[:at], odd, *value[at + 1:])


def moved(value):
    """Tuples of fractions that differ from a tuple of fractions in one part, by a little or in a sign."""
    for at, (number, divisor) in enumerate(value):
        part = Fraction(number, divisor)
        for other in (part + 1, part - 1, -part, part + Fraction(1, LONG), part - Fraction(1, LONG)):
            if other != part:
                yield (*value[:at], (other.numerator, other.denominator), *value[at + 1:])
