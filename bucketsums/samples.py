"""Samples: what can be expected of rows that are drawn, and what they tell of the column."""
from math import comb

from bucketsums.columns import check_column
from bucketsums.common import MOST_ROWS, check_number, is_between, lowest_terms
from bucketsums.errors import BadNumber, Unlike


def _check_size(column, size):
    check_column(column)
    check_number(size, 0, column.rows())


def _seen_ways(rows, count, size):
    """The choices of so many rows that hold at least one of some of them."""
    return comb(rows, size) - comb(rows - count, size)


def seen_chance(column, value, size):
    """The chance that a value is among so many rows drawn."""
    _check_size(column, size)
    rows = column.rows()
    return lowest_terms(_seen_ways(rows, column[value], size), comb(rows, size))


def expected_filled(column, size):
    """The expected number of different values among so many rows drawn."""
    _check_size(column, size)
    rows = column.rows()
    return lowest_terms(sum([_seen_ways(rows, count, size) for count in column.counts]), comb(rows, size))


def expected_pairs(column, size):
    """The expected number of pairs with equal values among so many rows drawn."""
    _check_size(column, size)
    pairs = sum([comb(count, 2) for count in column.counts])
    # Less than two rows have no pairs, so anything may stand below.
    return lowest_terms(pairs * comb(size, 2), max(1, comb(column.rows(), 2)))


def sample_ways(column, sample):
    """The number of choices of rows of a column that give a sample."""
    check_column(column)
    check_column(sample)
    if len(column) != len(sample):
        raise Unlike("the column and the sample have different numbers of values")
    ways = 1
    for count, drawn in zip(column.counts, sample.counts):
        ways *= comb(count, drawn)
    return ways


def guess_filled(rows, sample):
    """The estimate, by a sample, of how many values the rows of its column have."""
    check_column(sample)
    size = sample.rows()
    if size == 0 or not is_between(rows, size, MOST_ROWS):
        raise BadNumber(f"this is not an integer from the rows of a sample that has some to {MOST_ROWS}")
    top = 0
    bottom = 1
    for count in sample.counts:
        if count > 0:
            ways = comb(size, count)
            part = comb(rows - size + count - 1, count)
            signed = part if count % 2 == 1 else -part
            top = top * ways + (ways + signed) * bottom
            bottom *= ways
    return lowest_terms(top, bottom)
