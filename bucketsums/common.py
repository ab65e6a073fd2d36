"""Checks, buckets and fractions that several files need."""
from math import gcd

from bucketsums.errors import BadCuts, BadNumber, BadRange

MOST_VALUES = 12
MOST_COUNT = 9
MOST_ROWS = 108

# Each number from 1 to 12 divides it: so an error or an estimate times this
# number is an integer, whatever the sizes of the buckets are.
SCALE = 27720


def is_whole(item):
    """Whether an item is an integer; True and False are none."""
    return isinstance(item, int) and not isinstance(item, bool)


def is_between(item, least, most):
    """Whether an item is an integer within both limits."""
    return is_whole(item) and least <= item <= most


def are_between(items, least, most):
    """Whether all items are integers within both limits."""
    return all([is_between(item, least, most) for item in items])


def are_ascending(items, past):
    """Whether a tuple holds ascending integers from 0 on, below a limit."""
    if not isinstance(items, tuple) or not are_between(items, 0, past - 1):
        return False
    return all([one < other for one, other in zip(items, items[1:])])


def are_cuts(cuts, width):
    """Whether an item is a tuple of cuts for this number of values."""
    return are_ascending(cuts, width) and len(cuts) > 0 and cuts[0] == 0


def is_pair(item):
    """Whether an item is a pair of integers."""
    return isinstance(item, tuple) and len(item) == 2 and is_whole(item[0]) and is_whole(item[1])


def check_number(number, least, most):
    """Raise BadNumber for what is not an integer within both limits."""
    if not is_between(number, least, most):
        raise BadNumber(f"this is not an integer from {least} to {most}")


def check_cuts(cuts, width):
    """Raise BadCuts for what is not a tuple of cuts."""
    if not are_cuts(cuts, width):
        raise BadCuts(f"these are not cuts of {width} values")


def check_range(first, past, width):
    """Raise BadRange for what is not a range of the values."""
    if not is_between(first, 0, width - 1) or not is_between(past, first + 1, width):
        raise BadRange(f"this is not a range of {width} values")


def bucket_pairs(cuts, width):
    """For each bucket its first value and the value after its last one."""
    return list(zip(cuts, cuts[1:] + (width,)))


def shared_values(bucket, first, past):
    """How many values a bucket shares with a range."""
    start, end = bucket
    return max(0, min(end, past) - max(start, first))


def lowest_terms(top, bottom):
    """A fraction with a positive denominator, in lowest terms."""
    common = gcd(top, bottom)
    return (top // common, bottom // common)
