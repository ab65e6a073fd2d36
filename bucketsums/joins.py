"""What the sizes of joins can be, by two histograms and their caps."""
from bucketsums.bounds import check_caps, has_caps, poured
from bucketsums.columns import check_column
from bucketsums.common import SCALE, lowest_terms
from bucketsums.errors import Unlike
from bucketsums.histograms import check_histogram


class Joined:
    """Two pairs of columns, with the smallest and the greatest join."""

    def __init__(self, least, greatest):
        self.least = tuple([tuple(counts) for counts in least])
        self.greatest = tuple([tuple(counts) for counts in greatest])

    def __eq__(self, other):
        return isinstance(other, Joined) and self.least == other.least and self.greatest == other.greatest

    def shows(self, one, caps, other, late):
        """Whether both pairs have the histograms, the caps and these sizes."""
        least, greatest = join_ends(one, caps, other, late)
        for pair, size in ((self.least, least), (self.greatest, greatest)):
            if not isinstance(pair, tuple) or len(pair) != 2:
                return False
            if not has_caps(pair[0], one, caps) or not has_caps(pair[1], other, late):
                return False
            if _size(pair[0], pair[1]) != size:
                return False
        return True


def _check_arguments(one, caps, other, late):
    check_histogram(one)
    check_caps(one, caps)
    check_histogram(other)
    check_caps(other, late)
    if one.width != other.width or one.cuts != other.cuts:
        raise Unlike("the histograms have other numbers of values or other cuts")


def _size(counts, others):
    return sum([count * other for count, other in zip(counts, others)])


def _uneven(hist, caps, last_first):
    """Counts as uneven as they can be, the greatest of each bucket first, or last."""
    found = []
    for (start, end), total, cap in zip(hist.buckets(), hist.totals, caps):
        counts = poured(total, cap, end - start)
        found.extend(counts[::-1] if last_first else counts)
    return tuple(found)


def _pairs(one, caps, other, late):
    """A pair of counts with the smallest join, and one with the greatest join."""
    # For fixed counts on one side, rows move to the best values until the caps stop
    # them: so counts that are as uneven as they can be are enough on both sides.
    counts = _uneven(one, caps, False)
    return ((counts, _uneven(other, late, True)), (counts, _uneven(other, late, False)))


def join_size(one, other):
    """The number of rows of the join of two columns."""
    check_column(one)
    check_column(other)
    if len(one) != len(other):
        raise Unlike("the columns have different numbers of values")
    return _size(one.counts, other.counts)


def join_ends(one, caps, other, late):
    """The smallest and the greatest possible size of the join."""
    _check_arguments(one, caps, other, late)
    least, greatest = _pairs(one, caps, other, late)
    return (_size(least[0], least[1]), _size(greatest[0], greatest[1]))


def reach_join(one, caps, other, late):
    """Columns with the smallest join, and columns with the greatest one."""
    _check_arguments(one, caps, other, late)
    least, greatest = _pairs(one, caps, other, late)
    return Joined(least, greatest)


def join_estimate(one, caps, other, late):
    """The size of the join if each total is spread evenly over its bucket."""
    _check_arguments(one, caps, other, late)
    scaled = 0
    for (start, end), total, second in zip(one.buckets(), one.totals, other.totals):
        scaled += total * second * (SCALE // (end - start))
    return lowest_terms(scaled, SCALE)
