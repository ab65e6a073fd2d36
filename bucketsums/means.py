"""Sums of values: what the number of rows and the sum of their values tell."""
from bucketsums.common import MOST_VALUES, are_between, check_number, is_between
from bucketsums.errors import BadSum, BadValue

MOST_TOLD = 20


class Ends:
    """Values of rows, with the least and the greatest number of them from a value on."""

    def __init__(self, least, greatest):
        self.least = tuple(least)
        self.greatest = tuple(greatest)

    def __eq__(self, other):
        return isinstance(other, Ends) and self.least == other.least and self.greatest == other.greatest

    def shows(self, rows, width, total, value):
        """Whether both are values of so many rows, with the sum and these numbers."""
        _check_arguments(rows, width, total, value)
        if not _have_sum(self.least, rows, width, total) or not _have_sum(self.greatest, rows, width, total):
            return False
        found = (_many_from(self.least, value), _many_from(self.greatest, value))
        return found == _both_ends(rows, width, total, value)


def _check_rows(rows, width, total):
    """Raise BadNumber for wrong numbers of rows and of values, BadSum for a sum that no rows have."""
    check_number(rows, 1, MOST_TOLD)
    check_number(width, 1, MOST_VALUES)
    if not is_between(total, 0, rows * (width - 1)):
        raise BadSum("no rows have this sum of their values")


def _check_arguments(rows, width, total, value):
    _check_rows(rows, width, total)
    if not is_between(value, 1, width - 1):
        raise BadValue("this is not one of the values from 1 on")


def _have_sum(values, rows, width, total):
    """Whether an item is the values of so many rows with the sum."""
    if not isinstance(values, tuple) or len(values) != rows or not are_between(values, 0, width - 1):
        return False
    return sum(values) == total


def _many_from(values, value):
    """How many values are at least a value."""
    return len([one for one in values if one >= value])


def _rounded_up(top, bottom):
    return -(-top // bottom)


def _both_ends(rows, width, total, value):
    """The least and the greatest number of rows that can have at least a value."""
    # With all rows just below the value, this much is missing; a row can give up to its part.
    missing = total - rows * (value - 1)
    return (max(0, _rounded_up(missing, width - value)), min(rows, total // value))


def _with_many(many, rows, width, total, value):
    """Values of rows with a sum, just so many of which are at least a value."""
    values = [value] * many + [0] * (rows - many)
    left = total - sum(values)
    for row in range(rows):
        room = width - 1 - value if row < many else value - 1
        values[row] += min(room, left)
        left -= min(room, left)
    return values


def at_least(rows, width, total, value):
    """The least and the greatest number of rows that can have at least a value."""
    _check_arguments(rows, width, total, value)
    return _both_ends(rows, width, total, value)


def reach_both(rows, width, total, value):
    """Values of rows with the least and with the greatest number of them from a value on."""
    _check_arguments(rows, width, total, value)
    least, greatest = _both_ends(rows, width, total, value)
    return Ends(_with_many(least, rows, width, total, value), _with_many(greatest, rows, width, total, value))


def rank_values(rows, width, total, rank):
    """The least and the greatest value that the row with a rank can have."""
    _check_rows(rows, width, total)
    check_number(rank, 0, rows - 1)
    # The rows after it have at least its value, those before it at most its value.
    later = rows - rank - 1
    least = max(0, _rounded_up(total - later * (width - 1), rank + 1))
    return (least, min(width - 1, total // (later + 1)))
