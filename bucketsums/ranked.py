"""Values of ranks: which values a row can have, by a histogram and caps."""
from bucketsums.bounds import check_caps, has_caps, poured
from bucketsums.columns import Column
from bucketsums.common import check_number, is_whole
from bucketsums.errors import BadNumber
from bucketsums.histograms import check_histogram


class Ranked:
    """For each possible value of a row the counts of a column in which it has this value."""

    def __init__(self, columns):
        self.columns = {value: tuple(columns[value]) for value in columns}

    def __eq__(self, other):
        return isinstance(other, Ranked) and self.columns == other.columns

    def shows(self, hist, caps, rank):
        """Whether these are all possible values, each with right counts."""
        _check_arguments(hist, caps, rank)
        if not isinstance(self.columns, dict):
            return False
        # Python takes True for 1 as a key, the document does not.
        if not all([is_whole(value) for value in self.columns]):
            return False
        if sorted(self.columns) != sorted(_columns(hist, caps, rank)):
            return False
        return all([has_caps(self.columns[value], hist, caps)
                    and Column(self.columns[value]).sorted_rows()[rank] == value for value in self.columns])


def _check_caps(hist, caps):
    check_histogram(hist)
    check_caps(hist, caps)


def _check_arguments(hist, caps, rank):
    _check_caps(hist, caps)
    check_number(rank, 0, sum(hist.totals) - 1)


def _bucket_of(hist, rank):
    """The index of the bucket in which the row with a rank is, and its rank among the rows there."""
    for at, total in enumerate(hist.totals):
        if rank < total:
            break
        rank -= total
    return at, rank


def _part(total, cap, places, rank, place):
    """Counts of a bucket whose row with a rank is at a place, or None if it cannot be there.

    Before the place stand as many rows as the rank and the cap allow, and at the
    place as many as the cap allows: so least are left for the places after it.
    """
    before = min(rank, cap * place)
    count = min(cap, total - before)
    left = total - before - count
    if before + count <= rank or left > cap * (places - place - 1):
        return None
    return poured(before, cap, place) + [count] + poured(left, cap, places - place - 1)


def _columns(hist, caps, rank):
    """For each possible value, ascending, counts in which the row with the rank has it."""
    at, late = _bucket_of(hist, rank)
    parts = [poured(total, cap, past - first)
             for (first, past), total, cap in zip(hist.buckets(), hist.totals, caps)]
    first, past = hist.buckets()[at]
    found = {}
    for value in range(first, past):
        part = _part(hist.totals[at], caps[at], past - first, late, value - first)
        if part is not None:
            found[value] = [count for one in parts[:at] + [part] + parts[at + 1:] for count in one]
    return found


def possible_values(hist, caps, rank):
    """The possible values of the row with a rank, ascending."""
    _check_arguments(hist, caps, rank)
    return list(_columns(hist, caps, rank))


def reach_values(hist, caps, rank):
    """For each possible value of the row with a rank a column in which it has this value."""
    _check_arguments(hist, caps, rank)
    return Ranked(_columns(hist, caps, rank))


def median_values(hist, caps):
    """The possible values of the middle row, ascending."""
    _check_caps(hist, caps)
    rows = sum(hist.totals)
    if rows == 0:
        raise BadNumber("there are no rows")
    return list(_columns(hist, caps, (rows - 1) // 2))
