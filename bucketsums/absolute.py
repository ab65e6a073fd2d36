"""Buckets with small absolute errors, and tables that prove that none are smaller."""
from bucketsums.columns import check_column
from bucketsums.common import MOST_ROWS
from bucketsums.common import are_cuts, bucket_pairs, check_number, check_range, is_pair, is_whole


class Absolute:
    """Cuts with the least error, and a table of numbers that no errors fall below."""

    def __init__(self, cuts, table):
        self.cuts = tuple(cuts)
        self.table = {key: table[key] for key in table}

    def __eq__(self, other):
        return isinstance(other, Absolute) and self.cuts == other.cuts and self.table == other.table

    def shows(self, column, buckets):
        """Whether the cuts and the table are right for a column."""
        _check_arguments(column, buckets)
        return (are_cuts(self.cuts, len(column)) and len(self.cuts) == buckets
                and _is_table(self.table, column.counts, buckets)
                and self.table[(buckets, len(column))] == _cuts_error(column.counts, self.cuts))


def _check_arguments(column, buckets):
    check_column(column)
    check_number(buckets, 1, len(column))


def _error(counts):
    """The absolute error of a bucket with these counts."""
    median = sorted(counts)[len(counts) // 2]
    return sum([abs(count - median) for count in counts])


def _cuts_error(counts, cuts):
    return sum([_error(counts[first:past]) for first, past in bucket_pairs(cuts, len(counts))])


def _pairs(buckets, width):
    """The keys of a table."""
    return [(many, past) for many in range(1, buckets + 1) for past in range(many, width + 1)]


def _ways(found, counts, many, past):
    """The errors of so many buckets of the first values, by the first value of the last bucket."""
    if many == 1:
        return [(_error(counts[:past]), 0)]
    return [(found[(many - 1, first)] + _error(counts[first:past]), first) for first in range(many - 1, past)]


def _is_table(table, counts, buckets):
    """Whether an item is a table, none of whose integers is too great."""
    pairs = _pairs(buckets, len(counts))
    if not isinstance(table, dict) or len(table) != len(pairs):
        return False
    # Python takes True for 1 as a key and as a value, the document does not.
    if not all([is_pair(key) and key in pairs and is_whole(table[key]) for key in table]):
        return False
    return all([table[(many, past)] <= min(_ways(table, counts, many, past))[0] for many, past in pairs])


def _least_errors(counts, buckets):
    """The least error for each key, and for each key the first value of the last bucket."""
    found = {}
    starts = {}
    for many, past in _pairs(buckets, len(counts)):
        found[(many, past)], starts[(many, past)] = min(_ways(found, counts, many, past))
    return found, starts


def bucket_error(column, first, past):
    """The absolute error of the bucket of a range."""
    check_column(column)
    check_range(first, past, len(column))
    return _error(column.counts[first:past])


def best_absolute(column, buckets):
    """Cuts into this number of buckets with the least error."""
    _check_arguments(column, buckets)
    found, starts = _least_errors(column.counts, buckets)
    cuts = []
    past = len(column)
    for many in range(buckets, 0, -1):
        past = starts[(many, past)]
        cuts.append(past)
    return Absolute(cuts[::-1], found)


def least_error(column, buckets):
    """The least error of this number of buckets."""
    _check_arguments(column, buckets)
    return _least_errors(column.counts, buckets)[0][(buckets, len(column))]


def fewest_buckets(column, error):
    """The least number of buckets with at most this error."""
    check_column(column)
    check_number(error, 0, MOST_ROWS)
    width = len(column)
    found = _least_errors(column.counts, width)[0]
    return min([many for many in range(1, width + 1) if found[(many, width)] <= error])
