"""Buckets and groups of values with small squared errors."""
from bucketsums.columns import check_column
from bucketsums.common import SCALE, are_ascending, are_cuts, bucket_pairs, check_cuts, check_number
from bucketsums.common import is_pair, lowest_terms


class Squares:
    """Cuts with the smallest squared error, and the sums that prove it."""

    def __init__(self, cuts, sums):
        self.cuts = tuple(cuts)
        self.sums = {key: sums[key] for key in sums}

    def __eq__(self, other):
        return isinstance(other, Squares) and self.cuts == other.cuts and self.sums == other.sums

    def shows(self, column, buckets):
        """Whether the cuts and the sums are right for a column."""
        _check_arguments(column, buckets)
        least = _sums(column.counts, buckets)
        return (are_cuts(self.cuts, len(column)) and len(self.cuts) == buckets
                and _are_sums(self.sums, least)
                and square_error(column, self.cuts) == least[(buckets, len(column))])


class Grouping:
    """Groups with the smallest squared error, and the sums that prove it."""

    def __init__(self, groups, sums):
        self.groups = tuple([tuple(group) for group in groups])
        self.sums = {key: sums[key] for key in sums}

    def __eq__(self, other):
        return isinstance(other, Grouping) and self.groups == other.groups and self.sums == other.sums

    def shows(self, column, buckets):
        """Whether the groups and the sums are right for a column."""
        _check_arguments(column, buckets)
        least = _sums(sorted(column.counts), buckets)
        return (_are_groups(self.groups, len(column)) and len(self.groups) == buckets
                and _are_sums(self.sums, least)
                and _grouped_error(column, self.groups) == least[(buckets, len(column))])


def _check_arguments(column, buckets):
    check_column(column)
    check_number(buckets, 1, len(column))


def _are_groups(groups, width):
    """Whether an item is a tuple of groups with each value in one of them."""
    if not isinstance(groups, tuple):
        return False
    if not all([are_ascending(group, width) and len(group) > 0 for group in groups]):
        return False
    values = []
    for group in groups:
        values.extend(group)
    return sorted(values) == list(range(width))


def _are_sums(sums, least):
    """Whether an item is a dict with just these fractions."""
    if not isinstance(sums, dict) or len(sums) != len(least):
        return False
    # Python takes True for 1 as a key and as a value, the document does not.
    return all([is_pair(key) and key in least and is_pair(sums[key]) and sums[key] == least[key]
                for key in sums])


def _scaled_error(counts):
    """The squared error of a group with these counts, times SCALE."""
    total = sum(counts)
    squares = sum([count * count for count in counts])
    return squares * SCALE - total * total * (SCALE // len(counts))


def _total_error(groups):
    """The total squared error of groups of counts, as a fraction."""
    return lowest_terms(sum([_scaled_error(group) for group in groups]), SCALE)


def _grouped_error(column, groups):
    """The total squared error of groups of values."""
    return _total_error([[column[value] for value in group] for group in groups])


def _least_errors(counts, buckets):
    """For each number of buckets and of first values the least scaled error.

    It comes as a pair with the first value of the last bucket.
    """
    found = {(1, past): (_scaled_error(counts[:past]), 0) for past in range(1, len(counts) + 1)}
    for many in range(2, buckets + 1):
        for past in range(many, len(counts) + 1):
            found[(many, past)] = min([
                (found[(many - 1, first)][0] + _scaled_error(counts[first:past]), first)
                for first in range(many - 1, past)])
    return found


def _as_fractions(found):
    return {key: lowest_terms(found[key][0], SCALE) for key in found}


def _sums(counts, buckets):
    """For each number of buckets and of first values the least error."""
    return _as_fractions(_least_errors(counts, buckets))


def _cuts_from(found, buckets, width):
    """The cuts to which the least errors lead."""
    cuts = []
    past = width
    for many in range(buckets, 0, -1):
        past = found[(many, past)][1]
        cuts.append(past)
    return tuple(cuts[::-1])


def square_error(column, cuts):
    """The total squared error of the buckets of a column."""
    check_column(column)
    check_cuts(cuts, len(column))
    return _total_error([column.counts[start:end] for start, end in bucket_pairs(cuts, len(column))])


def best_squares(column, buckets):
    """Cuts into this number of buckets with the smallest squared error."""
    _check_arguments(column, buckets)
    found = _least_errors(column.counts, buckets)
    return Squares(_cuts_from(found, buckets, len(column)), _as_fractions(found))


def least_square(column, buckets):
    """The smallest squared error of this number of buckets."""
    _check_arguments(column, buckets)
    return _sums(column.counts, buckets)[(buckets, len(column))]


def best_grouping(column, groups):
    """This number of groups of values with the smallest squared error."""
    _check_arguments(column, groups)
    # Some best groups are stretches of the values in the order of their counts.
    order = sorted([(count, value) for value, count in enumerate(column.counts)])
    found = _least_errors([count for count, _ in order], groups)
    cuts = _cuts_from(found, groups, len(order))
    chosen = [sorted([value for _, value in order[start:end]])
              for start, end in bucket_pairs(cuts, len(order))]
    return Grouping(chosen, _as_fractions(found))


def least_grouping(column, groups):
    """The smallest squared error of this number of groups."""
    _check_arguments(column, groups)
    return _sums(sorted(column.counts), groups)[(groups, len(column))]


def square_profile(column):
    """The smallest squared errors of 1 bucket, 2 buckets and so on."""
    check_column(column)
    width = len(column)
    sums = _sums(column.counts, width)
    return [sums[(many, width)] for many in range(1, width + 1)]
