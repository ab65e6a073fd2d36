"""What the sums of ranges can be, by a histogram, caps and fills."""
from bucketsums.common import MOST_COUNT, are_between, check_range, is_between, shared_values
from bucketsums.errors import BadCaps, BadFills, NotPossible
from bucketsums.histograms import check_histogram


class Ends:
    """Counts of two columns, with the smallest and the greatest sum of a range."""

    def __init__(self, least, greatest):
        self.least = tuple(least)
        self.greatest = tuple(greatest)

    def __eq__(self, other):
        return isinstance(other, Ends) and self.least == other.least and self.greatest == other.greatest

    def shows(self, hist, caps, first, past):
        """Whether the counts have the histogram, the caps and these sums."""
        _check_arguments(hist, caps, first, past)
        if not has_caps(self.least, hist, caps) or not has_caps(self.greatest, hist, caps):
            return False
        found = (sum(self.least[first:past]), sum(self.greatest[first:past]))
        return found == _both_ends(hist, caps, first, past)


def check_caps(hist, caps):
    """Raise BadCaps for what is not caps, NotPossible for caps that are too low."""
    if not isinstance(caps, tuple) or len(caps) != len(hist) or not are_between(caps, 0, MOST_COUNT):
        raise BadCaps(f"caps are a tuple of integers from 0 to {MOST_COUNT}, one for each bucket")
    for (start, end), total, cap in zip(hist.buckets(), hist.totals, caps):
        if total > cap * (end - start):
            raise NotPossible("a total is greater than the caps allow")


def _check_fills(hist, caps, fills):
    """Raise BadFills for what is not fills, NotPossible if the caps rule them out."""
    if not isinstance(fills, tuple) or len(fills) != len(hist):
        raise BadFills("fills are a tuple of integers, one for each bucket")
    for (start, end), fill in zip(hist.buckets(), fills):
        if not is_between(fill, 0, end - start):
            raise BadFills("a fill is not an integer from 0 to the number of values")
    for total, cap, fill in zip(hist.totals, caps, fills):
        if not fill <= total <= cap * fill:
            raise NotPossible("a total is not possible with its fill and its cap")


def _check_arguments(hist, caps, first, past):
    check_histogram(hist)
    check_caps(hist, caps)
    check_range(first, past, hist.width)


def has_caps(counts, hist, caps):
    """Whether an item is the counts of a column with a histogram and caps."""
    if not isinstance(counts, tuple) or len(counts) != hist.width:
        return False
    if not are_between(counts, 0, MOST_COUNT):
        return False
    return all([sum(counts[start:end]) == total and max(counts[start:end]) <= cap
                for (start, end), total, cap in zip(hist.buckets(), hist.totals, caps)])


def poured(total, cap, places):
    """Counts with a total, where each place takes what it can before the next one."""
    counts = []
    for _ in range(places):
        counts.append(min(cap, total))
        total -= counts[-1]
    return counts


def _both_ends(hist, caps, first, past):
    """The smallest and the greatest possible sum of a range."""
    least = 0
    greatest = 0
    for bucket, total, cap in zip(hist.buckets(), hist.totals, caps):
        start, end = bucket
        inside = shared_values(bucket, first, past)
        least += max(0, total - cap * (end - start - inside))
        greatest += min(total, cap * inside)
    return (least, greatest)


def _reached(hist, caps, first, past, inside_first):
    """Counts with the greatest sum of a range, or with the smallest one."""
    counts = [0] * hist.width
    for (start, end), total, cap in zip(hist.buckets(), hist.totals, caps):
        inside = [value for value in range(start, end) if first <= value < past]
        others = [value for value in range(start, end) if not first <= value < past]
        order = inside + others if inside_first else others + inside
        for value, count in zip(order, poured(total, cap, len(order))):
            counts[value] = count
    return tuple(counts)


def _inside_sums(total, cap, fill, inside, others):
    """The possible sums of some values of a bucket, beside its other values."""
    found = []
    for share in range(total + 1):
        # So many of the filled values can be among the asked ones.
        for many in range(max(0, fill - others), min(inside, fill) + 1):
            rest = fill - many
            if many <= share <= cap * many and rest <= total - share <= cap * rest:
                found.append(share)
                break
    return found


def sum_ends(hist, first, past):
    """The smallest and the greatest possible sum of a range."""
    check_histogram(hist)
    check_range(first, past, hist.width)
    return _both_ends(hist, (MOST_COUNT,) * len(hist), first, past)


def capped_ends(hist, caps, first, past):
    """The smallest and the greatest possible sum of a range, with caps."""
    _check_arguments(hist, caps, first, past)
    return _both_ends(hist, caps, first, past)


def reach_ends(hist, caps, first, past):
    """Columns with the smallest and the greatest possible sum of a range."""
    _check_arguments(hist, caps, first, past)
    return Ends(_reached(hist, caps, first, past, False), _reached(hist, caps, first, past, True))


def possible_sums(hist, caps, fills, first, past):
    """All possible sums of a range, with caps and fills, ascending."""
    check_histogram(hist)
    check_caps(hist, caps)
    _check_fills(hist, caps, fills)
    check_range(first, past, hist.width)
    sums = [0]
    for at, bucket in enumerate(hist.buckets()):
        start, end = bucket
        inside = shared_values(bucket, first, past)
        shares = _inside_sums(hist.totals[at], caps[at], fills[at], inside, end - start - inside)
        sums = sorted({one + other for one in sums for other in shares})
    return sums
