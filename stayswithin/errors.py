"""The errors of the program: each has a word, the name of its class, and a place."""


class BoundError(ValueError):
    """The base class of every error of the program."""

    def __init__(self, word, place=None):
        # The text is only for people who read a traceback; programs ask word and place.
        if place is None:
            ValueError.__init__(self, f"{word}")
        else:
            ValueError.__init__(self, f"{word} at {place}")
        self.word = word
        self.place = place


class BadPoint(BoundError):
    """A value that should be a point is none."""

    def __init__(self, place=None):
        BoundError.__init__(self, "BadPoint", place)


class BadWeights(BoundError):
    """A value that should be weights is none."""

    def __init__(self, place=None):
        BoundError.__init__(self, "BadWeights", place)


class BadLine(BoundError):
    """A line of a text does not have its form."""

    def __init__(self, place=None):
        BoundError.__init__(self, "BadLine", place)


class NoPoint(BoundError):
    """A body has no point."""

    def __init__(self, place=None):
        BoundError.__init__(self, "NoPoint", place)


class BadRow(BoundError):
    """A value that should be a row of limits is none."""

    def __init__(self, place=None):
        BoundError.__init__(self, "BadRow", place)


class BadMachine(BoundError):
    """A part of a machine is refused."""

    def __init__(self, place=None):
        BoundError.__init__(self, "BadMachine", place)


class TooManySteps(BoundError):
    """No answer was found within the steps that are taken."""

    def __init__(self, place=None):
        BoundError.__init__(self, "TooManySteps", place)


class Outside(BoundError):
    """A state is not one of a body."""

    def __init__(self, place=None):
        BoundError.__init__(self, "Outside", place)
