"""Plain computations and wrong arguments that several tests need.

The computations try everything that there is, so they are slow but easy to
believe; the program is compared with them.
"""
import random
from fractions import Fraction
from itertools import combinations, product

from bucketsums.columns import Column

# Nothing of this is an integer.
NOT_INTEGERS = (None, True, False, "1", b"1", [1], (1,), {1: 1}, {1}, len, Column([1]))

# Nothing of this is a list, a tuple, a column or a histogram.
STRANGE = (None, True, False, 0, 3, "12", b"12", {0: 1}, {0}, frozenset([0]), range(2), len, Column)


def all_cuts(width):
    """All cuts of this number of values."""
    return [(0,) + rest for many in range(width) for rest in combinations(range(1, width), many)]


def cuts_into(width, buckets):
    """All cuts of this number of values into this number of buckets."""
    return [cuts for cuts in all_cuts(width) if len(cuts) == buckets]


def parts(items, cuts):
    """The items of each bucket, added one by one."""
    found = []
    for value, item in enumerate(items):
        if value in cuts:
            found.append([])
        found[-1].append(item)
    return found


def all_ranges(width):
    """All ranges of this number of values."""
    return [(first, past) for first in range(width) for past in range(first + 1, width + 1)]


def partitions(items, many):
    """All ways to put the items into this number of groups."""
    if not items:
        return [[]] if many == 0 else []
    found = [[[items[0]]] + rest for rest in partitions(items[1:], many - 1)] if many > 0 else []
    for rest in partitions(items[1:], many):
        for at in range(len(rest)):
            found.append(rest[:at] + [[items[0]] + rest[at]] + rest[at + 1:])
    return found


def pair_of(fraction):
    """A Fraction as a pair."""
    return (fraction.numerator, fraction.denominator)


def group_error(counts):
    """The squared error of a group, as it is defined."""
    average = Fraction(sum(counts), len(counts))
    return sum(((count - average) ** 2 for count in counts), Fraction(0))


def total_error(groups):
    """The total squared error of groups of counts."""
    return sum((group_error(group) for group in groups), Fraction(0))


def least_error_of_cuts(counts, buckets):
    """The smallest squared error of exactly this number of buckets."""
    return min(total_error(parts(counts, cuts)) for cuts in cuts_into(len(counts), buckets))


def plain_sums(counts, buckets):
    """What `sums` must be, by trying all cuts of all first values."""
    return {
        (many, past): pair_of(least_error_of_cuts(counts[:past], many))
        for many in range(1, buckets + 1) for past in range(many, len(counts) + 1)
    }


def some_counts(many, most_width, seed, most=9):
    """Counts for ordinary inputs, always the same ones."""
    source = random.Random(seed)
    found = []
    for _ in range(many):
        width = source.randint(1, most_width)
        found.append(tuple(source.randint(0, most) for _ in range(width)))
    return found


def all_counts(width, most):
    """All tuples of counts up to a greatest count."""
    return list(product(range(most + 1), repeat=width))
