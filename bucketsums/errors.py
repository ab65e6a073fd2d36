"""The errors of this package, one class for each kind of wrong argument."""


class SumError(ValueError):
    """Any error that this package documents."""


class BadCounts(SumError):
    """The counts of a column are wrong."""


class BadColumn(SumError):
    """An argument is not a column."""


class BadValue(SumError):
    """An argument is not one of the values."""


class BadRange(SumError):
    """Two arguments are not a range of the values."""


class BadCuts(SumError):
    """An argument is not a tuple of cuts."""


class BadHistogram(SumError):
    """An argument is not a histogram, or cannot make one."""


class BadNumber(SumError):
    """A number is not an integer within its limits."""


class BadIndex(SumError):
    """There is nothing with this index."""


class BadPlaces(SumError):
    """Places, cells or ranks are wrong."""


class BadCoefficients(SumError):
    """These are not the coefficients of a column."""


class BadStream(SumError):
    """A stream is wrong; `index` tells at which item."""

    def __init__(self, index):
        super().__init__("this is not a stream")
        self.index = index


class BadCounters(SumError):
    """Counters are wrong."""


class BadSum(SumError):
    """No rows can have this sum of their values."""


class BadSums(SumError):
    """These are not sums of powers of a column."""


class Unlike(SumError):
    """Two arguments do not belong together."""


class TooLarge(SumError):
    """An argument is larger than the function takes."""


class NotPossible(SumError):
    """Nothing is as the arguments ask."""


class NothingDone(SumError):
    """There is no operation to undo."""


class BadCaps(SumError):
    """Caps are wrong."""


class BadFills(SumError):
    """Fills are wrong."""


class BadNotes(SumError):
    """Notes are wrong; `index` tells at which item."""

    def __init__(self, index):
        super().__init__("these are not notes")
        self.index = index


class BadTotals(SumError):
    """The totals or the cells of a grid are wrong."""


class BadAsks(SumError):
    """Asks are wrong; `index` tells at which item."""

    def __init__(self, index):
        super().__init__("these are not asks")
        self.index = index


class BadText(SumError):
    """A text cannot be read; `line` tells at which line."""

    def __init__(self, line):
        super().__init__("this text cannot be read")
        self.line = line
