"""Wavelets: columns stored by some of their coefficients."""
from bucketsums.columns import Column, check_column
from bucketsums.common import MOST_COUNT, are_ascending, are_between, check_number, is_whole, lowest_terms
from bucketsums.errors import BadCoefficients, BadPlaces, TooLarge

WIDTHS = (1, 2, 4, 8)


class Kept:
    """Places of coefficients by which the squared error is as little as possible."""

    def __init__(self, places):
        self.places = tuple(places)

    def __eq__(self, other):
        return isinstance(other, Kept) and self.places == other.places

    def shows(self, column, many):
        """Whether these are so many places with the least squared error."""
        _check_number(column, many)
        if not are_ascending(self.places, len(column)) or len(self.places) != many:
            return False
        return _lost(column, self.places) == _lost(column, _best(column, many))


def _check_column(column):
    """Raise BadColumn for what is not a column, TooLarge for one that cannot be halved to the end."""
    check_column(column)
    if len(column) not in WIDTHS:
        raise TooLarge("the column has not 1, 2, 4 or 8 values")


def _check_places(column, places):
    _check_column(column)
    if not are_ascending(places, len(column)):
        raise BadPlaces("this is not an ascending tuple of places of coefficients")


def _check_number(column, many):
    _check_column(column)
    check_number(many, 0, len(column))


def _blocks(width):
    """The blocks with more than one value, level by level."""
    found = []
    size = width
    while size > 1:
        found.extend([(first, first + size) for first in range(0, width, size)])
        size //= 2
    return found


def _coefficients(counts):
    """The coefficients, beginning with the number of rows."""
    found = [sum(counts)]
    for first, past in _blocks(len(counts)):
        middle = (first + past) // 2
        found.append(sum(counts[first:middle]) - sum(counts[middle:past]))
    return tuple(found)


def _factors(width):
    """How often the width of each coefficient goes into the number of all values."""
    return [1] + [width // (past - first) for first, past in _blocks(width)]


def _losses(column):
    """For each coefficient the squared error without it, times the number of values."""
    numbers = _coefficients(column.counts)
    return [number * number * factor for number, factor in zip(numbers, _factors(len(column)))]


def _lost(column, places):
    """The squared error by some of the coefficients, times the number of values."""
    return sum([loss for place, loss in enumerate(_losses(column)) if place not in places])


def _best(column, many):
    """So many places by which the squared error is as little as possible."""
    order = sorted([(-loss, place) for place, loss in enumerate(_losses(column))])
    return sorted([place for _, place in order[:many]])


def _scaled_count(shares, value):
    """The count of a value by shares of the coefficients."""
    count = shares[0]
    for (first, past), share in zip(_blocks(len(shares)), shares[1:]):
        if first <= value < past:
            count += share if value < (first + past) // 2 else -share
    return count


def _halved(numbers):
    """The counts with these coefficients, if any counts have them."""
    sums = [numbers[0]]
    while len(sums) < len(numbers):
        # There are as many coefficients of a level as there are blocks.
        level = numbers[len(sums):2 * len(sums)]
        sums = [half for total, less in zip(sums, level) for half in ((total + less) // 2, (total - less) // 2)]
    return sums


def coefficients(column):
    """The coefficients of a column."""
    _check_column(column)
    return _coefficients(column.counts)


def column_of(numbers):
    """The column with these coefficients."""
    if not isinstance(numbers, (list, tuple)) or len(numbers) not in WIDTHS:
        raise BadCoefficients("this is not a list or tuple of 1, 2, 4 or 8 items")
    if not all([is_whole(number) for number in numbers]):
        raise BadCoefficients("a coefficient is not an integer")
    counts = _halved(numbers)
    # Where a sum cannot be halved, the counts have other coefficients.
    if not are_between(counts, 0, MOST_COUNT) or _coefficients(counts) != tuple(numbers):
        raise BadCoefficients("no column has these coefficients")
    return Column(counts)


def kept_counts(column, places):
    """The counts by the coefficients at some places, as fractions."""
    _check_places(column, places)
    width = len(column)
    kept = [number if place in places else 0 for place, number in enumerate(_coefficients(column.counts))]
    shares = [number * factor for number, factor in zip(kept, _factors(width))]
    return tuple([lowest_terms(_scaled_count(shares, value), width) for value in range(width)])


def kept_error(column, places):
    """The squared error by the coefficients at some places, as a fraction."""
    _check_places(column, places)
    return lowest_terms(_lost(column, places), len(column))


def keep_best(column, many):
    """So many places of coefficients by which the squared error is as little as possible."""
    _check_number(column, many)
    return Kept(_best(column, many))


def least_lost(column, many):
    """The least squared error by so many coefficients, as a fraction."""
    _check_number(column, many)
    return lowest_terms(_lost(column, _best(column, many)), len(column))
