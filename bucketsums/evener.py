"""Even columns: whether transfers of rows lead from one column to another one."""
from bucketsums.columns import check_alike, check_column
from bucketsums.common import are_between, is_between, is_pair


class Evener:
    """As few transfers as possible from the counts of a column to those of a more even one."""

    def __init__(self, transfers):
        self.transfers = [tuple(pair) for pair in transfers]

    def __eq__(self, other):
        return isinstance(other, Evener) and self.transfers == other.transfers

    def shows(self, one, other):
        """Whether the transfers can be done, lead to the counts, and are as few as possible."""
        counts, others = _both_ordered(one, other)
        if _first_less(counts, others) is not None or not _are_pairs(self.transfers, len(counts)):
            return False
        late = _transferred(counts, self.transfers)
        return (late is not None and sorted(late, reverse=True) == others
                and len(self.transfers) == len(_transfers(counts, others)))


class Uneven:
    """A number of places that shows that no transfers lead from one column to another one."""

    def __init__(self, many):
        self.many = many

    def __eq__(self, other):
        return isinstance(other, Uneven) and self.many == other.many

    def shows(self, one, other):
        """Whether the greatest counts, so many of them, have a smaller sum in the first column."""
        counts, others = _both_ordered(one, other)
        return is_between(self.many, 0, len(counts)) and sum(counts[:self.many]) < sum(others[:self.many])


def _both_ordered(one, other):
    """The counts of two columns in descending order, after the checks of the arguments."""
    check_alike(one, other)
    return sorted(one.counts, reverse=True), sorted(other.counts, reverse=True)


def _are_pairs(transfers, places):
    """Whether an item is a list of pairs of places."""
    return isinstance(transfers, list) and all([is_pair(pair) and are_between(pair, 0, places - 1)
                                                for pair in transfers])


def _first_less(counts, others):
    """How many first places have a smaller sum in the first counts than in the others, or None."""
    more = 0
    for place, (count, other) in enumerate(zip(counts, others)):
        more += count - other
        if more < 0:
            return place + 1
    return None


def _transfers(counts, others):
    """As few transfers as possible, if there are any that lead from some counts to others."""
    # No place gives and takes, so no fewer are enough. Each row goes to a later place, where
    # in the end the count is not greater: so each transfer can be done, in any order.
    givers = []
    found = []
    for place, (count, other) in enumerate(zip(counts, others)):
        givers.extend([place] * (count - other))
        for _ in range(other - count):
            found.append((givers.pop(), place))
    return found


def _transferred(counts, transfers):
    """The counts after transfers, or None if one of them cannot be done."""
    late = list(counts)
    for giver, taker in transfers:
        if late[giver] < late[taker] + 2:
            return None
        late[giver] -= 1
        late[taker] += 1
    return late


def judge_evener(one, other):
    """Transfers from one column to another one, or a number of places that shows that there are none."""
    counts, others = _both_ordered(one, other)
    many = _first_less(counts, others)
    if many is not None:
        return Uneven(many)
    return Evener(_transfers(counts, others))


def is_evener(one, other):
    """Whether transfers lead from one column to another one."""
    counts, others = _both_ordered(one, other)
    return _first_less(counts, others) is None


def fewest_transfers(one, other):
    """The least number of transfers from one column to another one, or None."""
    counts, others = _both_ordered(one, other)
    if _first_less(counts, others) is not None:
        return None
    return len(_transfers(counts, others))


def evenest(column):
    """The counts, in descending order, of as many rows spread as evenly as possible."""
    check_column(column)
    each, more = divmod(column.rows(), len(column))
    return (each + 1,) * more + (each,) * (len(column) - more)
