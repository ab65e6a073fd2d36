"""Histograms: the totals of buckets of neighbouring values."""
from bucketsums.columns import check_column
from bucketsums.common import MOST_COUNT, MOST_VALUES, SCALE
from bucketsums.common import are_cuts, bucket_pairs, check_cuts, check_range
from bucketsums.common import is_between, lowest_terms, shared_values
from bucketsums.errors import BadCuts, BadHistogram


class Histogram:
    """The number of values, the cuts, and the total of each bucket."""

    def __init__(self, width, cuts, totals):
        if not is_between(width, 1, MOST_VALUES):
            raise BadHistogram(f"the width is not an integer from 1 to {MOST_VALUES}")
        if not are_cuts(cuts, width):
            raise BadHistogram(f"the cuts are not cuts of {width} values")
        if not _are_totals(totals, bucket_pairs(cuts, width)):
            raise BadHistogram("the totals are not possible for the buckets")
        self.width = width
        self.cuts = cuts
        self.totals = totals

    def __eq__(self, other):
        return (isinstance(other, Histogram) and self.width == other.width
                and self.cuts == other.cuts and self.totals == other.totals)

    def __len__(self):
        return len(self.cuts)

    def buckets(self):
        """For each bucket its first value and the value after its last one."""
        return bucket_pairs(self.cuts, self.width)


def _are_totals(totals, buckets):
    """Whether an item is a tuple with a possible total for each bucket."""
    if not isinstance(totals, tuple) or len(totals) != len(buckets):
        return False
    return all([is_between(total, 0, MOST_COUNT * (end - start))
                for total, (start, end) in zip(totals, buckets)])


def check_histogram(hist):
    """Raise BadHistogram for what is not a histogram."""
    if not isinstance(hist, Histogram):
        raise BadHistogram("this is not a histogram")


def _parts(column, cuts):
    """The counts of each bucket, after the checks of the arguments."""
    check_column(column)
    check_cuts(cuts, len(column))
    return [column.counts[start:end] for start, end in bucket_pairs(cuts, len(column))]


def histogram(column, cuts):
    """The histogram of a column."""
    totals = tuple([sum(part) for part in _parts(column, cuts)])
    return Histogram(len(column), cuts, totals)


def caps_of(column, cuts):
    """The greatest count in each bucket."""
    return tuple([max(part) for part in _parts(column, cuts)])


def fills_of(column, cuts):
    """For each bucket the number of its values that some row has."""
    return tuple([len(part) - part.count(0) for part in _parts(column, cuts)])


def estimate(hist, first, past):
    """The sum of a range if each total is spread evenly over its bucket."""
    check_histogram(hist)
    check_range(first, past, hist.width)
    scaled = 0
    for bucket, total in zip(hist.buckets(), hist.totals):
        start, end = bucket
        scaled += total * shared_values(bucket, first, past) * (SCALE // (end - start))
    return lowest_terms(scaled, SCALE)


def coarser(hist, cuts):
    """The histogram of the same columns with some of the cuts."""
    check_histogram(hist)
    check_cuts(cuts, hist.width)
    if not all([cut in hist.cuts for cut in cuts]):
        raise BadCuts("these are not some of the cuts of the histogram")
    totals = []
    for bucket in bucket_pairs(cuts, hist.width):
        start, end = bucket
        totals.append(sum([total for cut, total in zip(hist.cuts, hist.totals) if start <= cut < end]))
    return Histogram(hist.width, cuts, tuple(totals))
