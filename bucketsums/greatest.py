"""Buckets whose counts differ little: small greatest spans."""
from bucketsums.columns import check_column
from bucketsums.common import MOST_COUNT, are_ascending, are_cuts, bucket_pairs, check_cuts, check_number


class Spans:
    """Cuts with the smallest greatest span, and the marks that prove it."""

    def __init__(self, cuts, marks):
        self.cuts = tuple(cuts)
        self.marks = tuple(marks)

    def __eq__(self, other):
        return isinstance(other, Spans) and self.cuts == other.cuts and self.marks == other.marks

    def shows(self, column, buckets):
        """Whether the cuts and the marks are right for a column."""
        _check_arguments(column, buckets)
        span = _least(column.counts, buckets)
        return (are_cuts(self.cuts, len(column)) and len(self.cuts) <= buckets
                and greatest_span(column, self.cuts) == span
                and _are_marks(self.marks, column.counts, buckets, span))


def _check_arguments(column, buckets):
    check_column(column)
    check_number(buckets, 1, len(column))


def _span(counts):
    return max(counts) - min(counts)


def _are_marks(marks, counts, buckets, span):
    """Whether an item is marks: no smaller span is then enough."""
    if span == 0:
        return isinstance(marks, tuple) and len(marks) == 0
    if not are_ascending(marks, len(counts)) or len(marks) != buckets + 1:
        return False
    return all([_span(counts[one:other + 1]) >= span for one, other in zip(marks, marks[1:])])


def _longest(counts, span):
    """Cuts into buckets within a span, each as long as it can be."""
    cuts = [0]
    for value in range(1, len(counts)):
        if _span(counts[cuts[-1]:value + 1]) > span:
            cuts.append(value)
    return tuple(cuts)


def _least(counts, buckets):
    """The smallest span for which so many buckets are enough."""
    span = 0
    while len(_longest(counts, span)) > buckets:
        span += 1
    return span


def greatest_span(column, cuts):
    """The greatest span of the buckets of a column."""
    check_column(column)
    check_cuts(cuts, len(column))
    return max([_span(column.counts[start:end]) for start, end in bucket_pairs(cuts, len(column))])


def best_spans(column, buckets):
    """Cuts into at most so many buckets with the smallest greatest span."""
    _check_arguments(column, buckets)
    span = _least(column.counts, buckets)
    # The longest buckets within a smaller span are too many; the first value
    # of each is one that the bucket before it had to leave out.
    marks = _longest(column.counts, span - 1)[:buckets + 1] if span > 0 else ()
    return Spans(_longest(column.counts, span), marks)


def least_span(column, buckets):
    """The smallest greatest span of at most so many buckets."""
    _check_arguments(column, buckets)
    return _least(column.counts, buckets)


def fewest_within(column, span):
    """The smallest number of buckets whose spans are all within a span."""
    check_column(column)
    check_number(span, 0, MOST_COUNT)
    return len(_longest(column.counts, span))


def span_profile(column):
    """The smallest greatest spans of at most 1 bucket, 2 buckets and so on."""
    check_column(column)
    return [_least(column.counts, buckets) for buckets in range(1, len(column) + 1)]
