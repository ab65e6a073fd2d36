"""Asks: ranges with prices, and the cuts for which they are whole."""
from bucketsums.common import MOST_VALUES, check_cuts, check_number, is_between
from bucketsums.errors import BadAsks

MOST_ASKS = 8
MOST_PRICE = 9


def _is_ask(ask, values):
    """Whether an item is an ask for so many values."""
    if not isinstance(ask, tuple) or len(ask) != 3:
        return False
    first, past, price = ask
    return (is_between(first, 0, values - 1) and is_between(past, first + 1, values)
            and is_between(price, 1, MOST_PRICE))


def _check_asks(values, asks):
    """Raise BadNumber for a wrong number of values, BadAsks for wrong asks."""
    check_number(values, 1, MOST_VALUES)
    if not isinstance(asks, (list, tuple)) or len(asks) > MOST_ASKS:
        raise BadAsks(None)
    for index, ask in enumerate(asks):
        if not _is_ask(ask, values):
            raise BadAsks(index)


def _check_arguments(values, asks, buckets):
    _check_asks(values, asks)
    check_number(buckets, 1, values)


def _whole(values, asks, cuts):
    """The indices of the asks whose ranges are whole."""
    marks = cuts + (values,)
    return [index for index, (first, past, _) in enumerate(asks) if first in marks and past in marks]


def _worth(values, asks, cuts):
    return sum([asks[index][2] for index in _whole(values, asks, cuts)])


def _cuts_into(values, buckets):
    """All cuts into this number of buckets, in ascending order."""
    found = [(0,)]
    for many in range(1, buckets):
        # As many values must be left as there are buckets to come.
        past = values - (buckets - many) + 1
        found = [cuts + (first,) for cuts in found for first in range(cuts[-1] + 1, past)]
    return found


def _best(values, asks, buckets):
    """The greatest worth of cuts, and all cuts with it."""
    worths = [(_worth(values, asks, cuts), cuts) for cuts in _cuts_into(values, buckets)]
    greatest = max([worth for worth, _ in worths])
    return greatest, [cuts for worth, cuts in worths if worth == greatest]


def whole_ranges(values, asks, cuts):
    """The indices of the asks whose ranges are whole, ascending."""
    _check_asks(values, asks)
    check_cuts(cuts, values)
    return _whole(values, asks, cuts)


def best_worth(values, asks, buckets):
    """The greatest worth of cuts into this number of buckets."""
    _check_arguments(values, asks, buckets)
    return _best(values, asks, buckets)[0]


def best_cuts(values, asks, buckets):
    """All cuts into this number of buckets with the greatest worth, ascending."""
    _check_arguments(values, asks, buckets)
    return _best(values, asks, buckets)[1]


def cuts_for_all(values, asks):
    """The cuts into as few buckets as possible for which all ranges are whole."""
    _check_asks(values, asks)
    marks = [0]
    for first, past, _ in asks:
        marks.extend([first, past])
    return tuple(sorted({mark for mark in marks if mark < values}))
