"""Plain computations and wrong arguments that several tests need.

The computations try everything that there is, so they are slow but easy to
believe; the program is compared with them.
"""
import random
from fractions import Fraction
from itertools import combinations, product

from bucketsums.columns import Column
from bucketsums.histograms import Histogram

# Nothing of this is an integer.
NOT_INTEGERS = (None, True, False, "1", b"1", [1], (1,), {1: 1}, {1}, len, Column([1]))

# Nothing of this is a list, a tuple, a column or a histogram.
STRANGE = (None, True, False, 0, 3, "12", b"12", {0: 1}, {0}, frozenset([0]), range(2), len, Column)
NOT_COLUMNS = STRANGE + ((1, 2), [1, 2], Histogram(1, (0,), (1,)))
NOT_HISTOGRAMS = STRANGE + ((3, (0, 1), (1, 2)), Column((1, 2, 3)), Histogram)

# Nothing of this is cuts of three values.
NOT_CUTS = STRANGE + (
    [0], [0, 1], (), (1,), (1, 2), (0, 0), (0, 2, 1), (0, 3), (0, 1, 2, 3), (-1, 0), (0, -1),
    ((0,),), (False,), (0, True), (0, "1"), (0, None), (None,), ("0",), (0, (1,)), (0, [1]),
)

# No pair of this is a range of three values.
NOT_RANGES = (
    ((-1, 2), (0, 4), (1, 1), (2, 1), (3, 3), (3, 4), (0, 0), (0, 10 ** 30))
    + tuple((item, 2) for item in NOT_INTEGERS) + tuple((0, item) for item in NOT_INTEGERS)
)


def all_cuts(width):
    """All cuts of this number of values."""
    return [(0,) + rest for many in range(width) for rest in combinations(range(1, width), many)]


def cuts_into(width, buckets):
    """All cuts of this number of values into this number of buckets."""
    return [cuts for cuts in all_cuts(width) if len(cuts) == buckets]


def parts(items, cuts):
    """The items of each bucket, added one by one."""
    found = []
    for value, item in enumerate(items):
        if value in cuts:
            found.append([])
        found[-1].append(item)
    return found


def all_ranges(width):
    """All ranges of this number of values."""
    return [(first, past) for first in range(width) for past in range(first + 1, width + 1)]


def all_subsets(many):
    """All ascending tuples of numbers from 0 on, below a limit."""
    return [some for size in range(many + 1) for some in combinations(range(many), size)]


def partitions(items, many):
    """All ways to put the items into this number of groups."""
    if not items:
        return [[]] if many == 0 else []
    found = [[[items[0]]] + rest for rest in partitions(items[1:], many - 1)] if many > 0 else []
    for rest in partitions(items[1:], many):
        for at in range(len(rest)):
            found.append(rest[:at] + [[items[0]] + rest[at]] + rest[at + 1:])
    return found


def pair_of(fraction):
    """A Fraction as a pair."""
    return (fraction.numerator, fraction.denominator)


def group_error(counts):
    """The squared error of a group, as it is defined."""
    average = Fraction(sum(counts), len(counts))
    return sum(((count - average) ** 2 for count in counts), Fraction(0))


def total_error(groups):
    """The total squared error of groups of counts."""
    return sum((group_error(group) for group in groups), Fraction(0))


def least_error_of_cuts(counts, buckets):
    """The smallest squared error of exactly this number of buckets."""
    return min(total_error(parts(counts, cuts)) for cuts in cuts_into(len(counts), buckets))


def plain_sums(counts, buckets):
    """What `sums` must be, by trying all cuts of all first values."""
    return {
        (many, past): pair_of(least_error_of_cuts(counts[:past], many))
        for many in range(1, buckets + 1) for past in range(many, len(counts) + 1)
    }


def some_counts(many, most_width, seed, most=9):
    """Counts for ordinary inputs, always the same ones."""
    source = random.Random(seed)
    found = []
    for _ in range(many):
        width = source.randint(1, most_width)
        found.append(tuple(source.randint(0, most) for _ in range(width)))
    return found


def all_counts(width, most):
    """All tuples of counts up to a greatest count."""
    return list(product(range(most + 1), repeat=width))


def columns_of(hist, caps):
    """The counts of all columns with a histogram and caps, without a limit on totals."""
    found = [()]
    for (start, end), total, cap in zip(hist.buckets(), hist.totals, caps):
        more = [counts for counts in all_counts(end - start, cap) if sum(counts) == total]
        found = [counts + other for counts in found for other in more]
    return found


def small_histograms():
    """Small histograms with caps that are possible, the edges among them."""
    found = []
    for width in (1, 2, 3, 4):
        for cuts in all_cuts(width):
            sizes = [len(part) for part in parts(range(width), cuts)]
            for seed in range(3):
                source = random.Random(f"{cuts} {width} {seed}")
                caps = tuple(source.randint(0, 3) for _ in sizes)
                totals = tuple(source.randint(0, cap * size) for cap, size in zip(caps, sizes))
                found.append((Histogram(width, cuts, totals), caps))
            full = tuple(3 * size for size in sizes)
            found.append((Histogram(width, cuts, full), (3,) * len(sizes)))
            found.append((Histogram(width, cuts, (0,) * len(sizes)), (0,) * len(sizes)))
    return found
