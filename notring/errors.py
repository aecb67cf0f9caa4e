"""The refusals of the program: one class for each, all straight under RingError."""


class RingError(ValueError):
    """Any refusal."""


class BadLine(RingError):
    """A text is no book; line is the number, from 1 on, of its first wrong line."""

    def __init__(self, line):
        self.line = line


class NoSheet(RingError):
    """What was handed in makes no sheet; row is the number of the first wrong row, or None."""

    def __init__(self, row):
        self.row = row


class TooManyRows(RingError):
    """There would be more rows than a sheet may have; count is how many."""

    def __init__(self, count):
        self.count = count


class TooManyFacts(RingError):
    """There would be more facts than a sheet may have; count is how many."""

    def __init__(self, count):
        self.count = count


class TooManyOpen(RingError):
    """There are too many open facts to tell the worlds; count is how many."""

    def __init__(self, count):
        self.count = count


class NoFact(RingError):
    """What was handed in, kept in fact, is no fact that can be spoken of here."""

    def __init__(self, fact):
        self.fact = fact


class OldFact(RingError):
    """The fact that was handed in is told already."""

    def __init__(self, fact):
        self.fact = fact


class NoRow(RingError):
    """What was handed in is no row that the desk can answer."""
