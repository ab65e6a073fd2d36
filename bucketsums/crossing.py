"""Counters: few of them for the values of a stream, with groups that are crossed off."""
from bucketsums.common import MOST_VALUES, are_ascending, are_between, check_number, is_between
from bucketsums.errors import BadCounters, BadStream

MOST_ITEMS = 30
MOST_COUNTERS = 6


class Crossed:
    """Counters of values, and the groups of indices that are crossed off."""

    def __init__(self, counters, groups):
        self.counters = {value: counters[value] for value in counters}
        self.groups = [tuple(group) for group in groups]

    def __eq__(self, other):
        return isinstance(other, Crossed) and self.counters == other.counters and self.groups == other.groups

    def shows(self, stream, counters):
        """Whether the values without the groups are left as the counters say."""
        _check_arguments(stream, counters)
        if not _are_counters(self.counters, counters) or not _are_groups(self.groups, stream, counters):
            return False
        crossed = [index for group in self.groups for index in group]
        left = [value for index, value in enumerate(stream) if index not in crossed]
        return len(crossed) == len({index for index in crossed}) and self.counters == _counted(left)


def _check_stream(stream):
    """Raise BadStream for what is not a stream."""
    if not isinstance(stream, (list, tuple)) or len(stream) > MOST_ITEMS:
        raise BadStream(None)
    for index, value in enumerate(stream):
        if not is_between(value, 0, MOST_VALUES - 1):
            raise BadStream(index)


def _check_arguments(stream, counters):
    _check_stream(stream)
    check_number(counters, 1, MOST_COUNTERS)


def _are_counters(found, counters):
    """Whether an item is a dict of at most so many counters that a stream can have."""
    if not isinstance(found, dict) or len(found) > counters:
        return False
    # Python takes True for 1 as a key and as a value, the document does not.
    return (are_between(list(found), 0, MOST_VALUES - 1)
            and are_between(list(found.values()), 1, MOST_ITEMS))


def _are_groups(groups, stream, counters):
    """Whether an item is a list of groups, each one by itself as it must be."""
    if not isinstance(groups, list) or not all([are_ascending(group, len(stream)) for group in groups]):
        return False
    return all([len(group) == counters + 1 and len({stream[index] for index in group}) == counters + 1
                for group in groups])


def _counted(values):
    """How often each value occurs."""
    return {value: values.count(value) for value in values}


def _walked(stream, counters):
    """The indices that are left for each value with a counter, and the groups that are crossed off."""
    left = {}
    groups = []
    for index, value in enumerate(stream):
        if value in left or len(left) < counters:
            left[value] = left.get(value, []) + [index]
        else:
            groups.append(sorted([index] + [left[other][-1] for other in left]))
            left = {other: left[other][:-1] for other in left if len(left[other]) > 1}
    return left, groups


def _counters_left(left):
    return {value: len(left[value]) for value in sorted(left)}


def cross_off(stream, counters):
    """The counters at the end of a stream, and the groups that are crossed off."""
    _check_arguments(stream, counters)
    left, groups = _walked(stream, counters)
    return Crossed(_counters_left(left), groups)


def counters_of(stream, counters):
    """The counters at the end of a stream, by ascending values."""
    _check_arguments(stream, counters)
    return _counters_left(_walked(stream, counters)[0])


def crossings(stream, counters):
    """How often values were crossed off."""
    _check_arguments(stream, counters)
    return len(_walked(stream, counters)[1])


def heavy(stream, counters):
    """The values that occur more often than so many counters can miss, ascending."""
    _check_arguments(stream, counters)
    values = list(stream)
    return [value for value in range(MOST_VALUES) if values.count(value) * (counters + 1) > len(values)]


def merge(one, other, counters):
    """The merged counters of two streams, by ascending values."""
    check_number(counters, 1, MOST_COUNTERS)
    if not _are_counters(one, counters) or not _are_counters(other, counters):
        raise BadCounters(f"this is not a dict of at most {counters} counters")
    sums = [one.get(value, 0) + other.get(value, 0) for value in range(MOST_VALUES)]
    less = sorted(sums, reverse=True)[counters]
    return {value: total - less for value, total in enumerate(sums) if total > less}
