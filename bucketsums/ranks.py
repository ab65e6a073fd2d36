"""Ranks: few of them that are near all others, and what their values tell."""
from bucketsums.columns import check_column
from bucketsums.common import MOST_ROWS, are_ascending, check_number, is_between
from bucketsums.errors import BadNumber, BadPlaces, BadValue


class Marks:
    """As few ranks as possible that are near all ranks, and as many ranks that are far from each other."""

    def __init__(self, kept, far):
        self.kept = tuple(kept)
        self.far = tuple(far)

    def __eq__(self, other):
        return isinstance(other, Marks) and self.kept == other.kept and self.far == other.far

    def shows(self, column, error):
        """Whether the ranks are right for a column and an error."""
        _check_arguments(column, error)
        rows = column.rows()
        if not are_ascending(self.kept, rows) or not are_ascending(self.far, rows):
            return False
        # No rank is near two of the ranks that are far: so fewer are not enough.
        return (len(self.kept) == len(self.far) and _are_near(self.kept, rows, error)
                and all([other - one > 2 * error for one, other in zip(self.far, self.far[1:])]))


def _check_arguments(column, error):
    check_column(column)
    check_number(error, 0, MOST_ROWS)
    if column.rows() == 0:
        raise BadNumber("the column has no rows")


def _check_kept(column, kept):
    check_column(column)
    if not are_ascending(kept, column.rows()):
        raise BadPlaces("this is not an ascending tuple of ranks")


def _are_near(kept, rows, error):
    """Whether each rank is near one of the kept ones."""
    return all([any([abs(rank - one) <= error for one in kept]) for rank in range(rows)])


def _far(column, error):
    """Ranks that are just too far from each other, beginning with the first one."""
    return list(range(0, column.rows(), 2 * error + 1))


def _bounds(column, kept, value):
    """The least and the greatest number of rows below a value, by the values at some ranks."""
    rows = column.sorted_rows()
    lower = [rank + 1 for rank in kept if rows[rank] < value]
    upper = [rank for rank in kept if rows[rank] >= value]
    return (max([0] + lower), min([len(rows)] + upper))


def keep_ranks(column, error):
    """As few ranks as possible that are near all ranks."""
    _check_arguments(column, error)
    far = _far(column, error)
    last = column.rows() - 1
    return Marks([min(last, rank + error) for rank in far], far)


def fewest_ranks(column, error):
    """The least number of ranks that are near all ranks."""
    _check_arguments(column, error)
    return len(_far(column, error))


def below_bounds(column, kept, value):
    """How many rows have values below a value, at least and at most, if those at some ranks are known."""
    _check_kept(column, kept)
    if not is_between(value, 0, len(column)):
        raise BadValue("this is not an integer from 0 to the number of values")
    return _bounds(column, kept, value)


def widest(column, kept):
    """The greatest difference of the most and the least number of rows below a value."""
    _check_kept(column, kept)
    bounds = [_bounds(column, kept, value) for value in range(len(column) + 1)]
    return max([most - least for least, most in bounds])
