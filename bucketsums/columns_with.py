"""All columns with a histogram and a greatest count: how many, each by its index."""
from bucketsums.columns import Column, check_column
from bucketsums.common import MOST_COUNT, check_number, is_between
from bucketsums.errors import BadIndex, Unlike
from bucketsums.histograms import check_histogram


def _check_arguments(hist, most):
    check_histogram(hist)
    check_number(most, 0, MOST_COUNT)


def _ways(places, total, most):
    """How many tuples of counts up to a greatest one have so many places and this total."""
    found = [1] + [0] * total
    for _ in range(places):
        found = [sum(found[max(0, part - most):part + 1]) for part in range(total + 1)]
    return found[total]


def _many(hist, most, at):
    """How many ways there are to fill the buckets from an index on."""
    many = 1
    for (first, past), total in list(zip(hist.buckets(), hist.totals))[at:]:
        many *= _ways(past - first, total, most)
    return many


def _next_count(places, total, most, later, index):
    """The first of the counts with an index, and their index among those with this count.

    Each way to fill the places of a bucket stands for as many columns as there
    are ways to fill the later buckets.
    """
    for count in range(min(most, total) + 1):
        many = _ways(places - 1, total - count, most) * later
        if index < many:
            break
        index -= many
    return count, index


def _is_one(hist, most, column):
    """Whether a column has the histogram and no count above the greatest one."""
    totals = [sum(column.counts[first:past]) for first, past in hist.buckets()]
    return len(column) == hist.width and totals == list(hist.totals) and max(column.counts) <= most


def count_columns(hist, most):
    """How many columns have a histogram and counts of at most a greatest one."""
    _check_arguments(hist, most)
    return _many(hist, most, 0)


def column_at(hist, most, index):
    """The column with an index, in the order of the counts."""
    _check_arguments(hist, most)
    if not is_between(index, 0, _many(hist, most, 0) - 1):
        raise BadIndex("there is no column with this index")
    counts = []
    for at, (first, past) in enumerate(hist.buckets()):
        left = hist.totals[at]
        later = _many(hist, most, at + 1)
        for value in range(first, past):
            count, index = _next_count(past - value, left, most, later, index)
            counts.append(count)
            left -= count
    return Column(counts)


def index_of(hist, most, column):
    """The index of a column."""
    _check_arguments(hist, most)
    check_column(column)
    if not _is_one(hist, most, column):
        raise Unlike("the column is not one of those with this histogram and greatest count")
    index = 0
    for at, (first, past) in enumerate(hist.buckets()):
        left = hist.totals[at]
        later = _many(hist, most, at + 1)
        for value in range(first, past):
            less = [_ways(past - value - 1, left - count, most) for count in range(column[value])]
            index += sum(less) * later
            left -= column[value]
    return index
