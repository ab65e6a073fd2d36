"""Finer histograms: what two histograms of a column say together."""
from bucketsums.common import MOST_COUNT, is_whole
from bucketsums.errors import Unlike
from bucketsums.histograms import Histogram, check_histogram


class Refined:
    """The histogram with the cuts of two histograms that tells all that they tell."""

    def __init__(self, finer):
        self.finer = finer

    def __eq__(self, other):
        return isinstance(other, Refined) and self.finer == other.finer

    def shows(self, one, other):
        """Whether this is the finer histogram of two ones."""
        told = _told_by_both(one, other)
        return _clash(told) is None and _finer(told) == self.finer


class Clash:
    """Two marks at which two histograms of one column cannot tell what they tell."""

    def __init__(self, first, past):
        self.first = first
        self.past = past

    def __eq__(self, other):
        return isinstance(other, Clash) and self.first == other.first and self.past == other.past

    def shows(self, one, other):
        """Whether the histograms clash at the two marks."""
        told = _told_by_both(one, other)
        if not is_whole(self.first) or not is_whole(self.past):
            return False
        return any([(one[0], late[0]) == (self.first, self.past) and _do_clash(one, late)
                    for one in told for late in told])


def _told(hist):
    """What a histogram tells: pairs of a mark and the number of rows below it."""
    found = [(0, 0)]
    for (_, past), total in zip(hist.buckets(), hist.totals):
        found.append((past, found[-1][1] + total))
    return found


def _told_by_both(one, other):
    """What two histograms tell, by ascending marks, after the checks of the arguments."""
    check_histogram(one)
    check_histogram(other)
    if one.width != other.width:
        raise Unlike("the histograms have different numbers of values")
    return sorted(_told(one) + _told(other))


def _do_clash(one, late):
    """Whether no column has both numbers of rows below two marks, the second not less than the first."""
    first, before = one
    past, below = late
    return first <= past and not 0 <= below - before <= MOST_COUNT * (past - first)


def _clash(told):
    """Two marks that clash, or None."""
    for one in told:
        for late in told:
            if _do_clash(one, late):
                return (one[0], late[0])
    return None


def _finer(told):
    """The finer histogram, if nothing clashes."""
    marks = sorted({mark for mark, _ in told})
    below = dict(told)
    totals = [below[past] - below[first] for first, past in zip(marks, marks[1:])]
    return Histogram(marks[-1], tuple(marks[:-1]), tuple(totals))


def refine(one, other):
    """The finer histogram of two ones, or two marks at which they clash."""
    told = _told_by_both(one, other)
    marks = _clash(told)
    if marks is not None:
        return Clash(marks[0], marks[1])
    return Refined(_finer(told))


def do_agree(one, other):
    """Whether some column has both histograms."""
    return _clash(_told_by_both(one, other)) is None
