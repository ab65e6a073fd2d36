"""Columns: for each value the number of rows that have it."""
from bucketsums.common import MOST_COUNT, MOST_VALUES, are_between, check_range, is_between
from bucketsums.errors import BadColumn, BadCounts, BadValue, Unlike


class Column:
    """A column of a table, described by its counts."""

    def __init__(self, counts):
        if not isinstance(counts, (list, tuple)) or not 1 <= len(counts) <= MOST_VALUES:
            raise BadCounts(f"the counts are not a list or tuple of 1 to {MOST_VALUES} items")
        if not are_between(counts, 0, MOST_COUNT):
            raise BadCounts(f"a count is not an integer from 0 to {MOST_COUNT}")
        self.counts = tuple(counts)

    def __eq__(self, other):
        return isinstance(other, Column) and self.counts == other.counts

    def __len__(self):
        return len(self.counts)

    def __getitem__(self, at):
        if not is_between(at, 0, len(self.counts) - 1):
            raise BadValue("this is not a value of the column")
        return self.counts[at]

    def __iter__(self):
        raise TypeError("a column is not iterated over")

    def rows(self):
        """The number of rows."""
        return sum(self.counts)

    def prefixes(self):
        """The numbers of rows below each value, and below all values' end."""
        below = [0]
        for count in self.counts:
            below.append(below[-1] + count)
        return below

    def filled(self):
        """The values that some row has."""
        return [value for value, count in enumerate(self.counts) if count > 0]

    def steps(self):
        """The number of runs of equal counts."""
        return 1 + len([1 for one, other in zip(self.counts, self.counts[1:]) if one != other])

    def sorted_rows(self):
        """The values of all rows, sorted."""
        found = []
        for value, count in enumerate(self.counts):
            found.extend([value] * count)
        return found

    def between(self, first, past):
        """The number of rows with values in a range."""
        check_range(first, past, len(self.counts))
        return sum(self.counts[first:past])


def check_column(column):
    """Raise BadColumn for what is not a column."""
    if not isinstance(column, Column):
        raise BadColumn("this is not a column")


def check_alike(one, other):
    """Raise BadColumn for what is not a column, Unlike for other numbers of values or of rows."""
    check_column(one)
    check_column(other)
    if len(one) != len(other) or one.rows() != other.rows():
        raise Unlike("the columns have different numbers of values or of rows")
