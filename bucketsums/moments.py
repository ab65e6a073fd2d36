"""Sums of powers: what they tell about the column that has them."""
from math import comb

from bucketsums.columns import Column, check_column
from bucketsums.common import MOST_COUNT, MOST_VALUES, are_between, check_number
from bucketsums.errors import BadSums, TooLarge

MOST_SUMS = 12
GREATEST_SUM = 1000000000000000
MOST_LISTED = 5


def _check_number(column, many):
    check_column(column)
    check_number(many, 1, MOST_SUMS)


def _check_width(column):
    """Raise TooLarge for a column that is too long to list those like it."""
    if len(column) > MOST_LISTED:
        raise TooLarge(f"the column has more than {MOST_LISTED} values")


def _sums(counts, many):
    """The first sums of powers."""
    powers = [1] * len(counts)
    found = []
    for _ in range(many):
        found.append(sum([count * power for count, power in zip(counts, powers)]))
        powers = [value * power for value, power in enumerate(powers)]
    return tuple(found)


def _count_of(value, sums):
    """The count of a value, if any counts have these sums."""
    # The product of (x - other) over all other values is 0 at all of them. Its sum over
    # all rows follows from the sums of powers, and it is the count times the scale.
    factors = [1]
    scale = 1
    for other in range(len(sums)):
        if other != value:
            factors = [lower - other * factor for lower, factor in zip([0] + factors, factors + [0])]
            scale *= value - other
    return sum([factor * total for factor, total in zip(factors, sums)]) // scale


def _shifted(counts, place, by, many):
    """Counts after adding a multiple of signed binomials, which changes none of the first sums."""
    late = list(counts)
    for step in range(many + 1):
        late[place + step] += by * comb(many, step) * (1 if step % 2 == 0 else -1)
    return late


def _same(counts, many):
    """All counts with the same first sums, ascending."""
    found = [list(counts)]
    # Each difference of two of them is a sum of multiples of the signed binomials from
    # one place on. They begin with 1, so each place takes every count just once.
    for place in range(len(counts) - many):
        found = [_shifted(late, place, count - late[place], many)
                 for late in found for count in range(MOST_COUNT + 1)]
    return [tuple(late) for late in found if are_between(late, 0, MOST_COUNT)]


def power_sums(column, many):
    """The first sums of powers of a column."""
    _check_number(column, many)
    return _sums(column.counts, many)


def column_of_sums(sums):
    """The column with as many values as there are sums, and with these sums."""
    if not isinstance(sums, tuple) or not 1 <= len(sums) <= MOST_VALUES:
        raise BadSums(f"this is not a tuple of 1 to {MOST_VALUES} sums")
    if not are_between(sums, 0, GREATEST_SUM):
        raise BadSums(f"a sum is not an integer from 0 to {GREATEST_SUM}")
    counts = [_count_of(value, sums) for value in range(len(sums))]
    # Where a count is no integer, the counts have other sums.
    if not are_between(counts, 0, MOST_COUNT) or _sums(counts, len(sums)) != sums:
        raise BadSums("no column has these sums")
    return Column(counts)


def same_sums(column, many):
    """All columns with the same number of values and the same first sums, ascending."""
    _check_number(column, many)
    _check_width(column)
    return [Column(counts) for counts in _same(column.counts, many)]


def least_apart(column, many):
    """The least number of values at which another column with the same first sums differs, or None."""
    _check_number(column, many)
    _check_width(column)
    apart = [len([1 for one, other in zip(column.counts, counts) if one != other])
             for counts in _same(column.counts, many)]
    return min([values for values in apart if values > 0], default=None)


def fewest_sums(column):
    """The least number of first sums that no other column with the same number of values has."""
    check_column(column)
    _check_width(column)
    many = 1
    while len(_same(column.counts, many)) > 1:
        many += 1
    return many
