"""Samples: points 1 and 15, the section bucketsums/samples.py."""
import unittest
from collections import Counter
from fractions import Fraction
from itertools import combinations
from math import comb

from bucketsums.columns import Column
from bucketsums.errors import BadColumn, BadNumber, BadValue, Unlike
from bucketsums.samples import expected_filled, expected_pairs, guess_filled, sample_ways, seen_chance
from tests.checking import Case
from tests.plain import NOT_COLUMNS, NOT_INTEGERS, all_counts, pair_of, some_counts

SMALL = [
    (0,), (1,), (2,), (0, 0, 0), (1, 1), (3, 0), (0, 4, 1), (2, 2, 2), (1, 2, 3), (5, 1, 0, 1), (1, 1, 1, 1, 1)] + [
    counts for counts in some_counts(60, 4, 15, 3) if sum(counts) < 9]


def rows_of(counts):
    """The values of all rows."""
    return [value for value, count in enumerate(counts) for _ in range(count)]


def samples(counts, size):
    """All choices of so many rows, each as the values of its rows."""
    return list(combinations(rows_of(counts), size))


def counts_of(sample, width):
    """The counts of a sample."""
    return tuple(sample.count(value) for value in range(width))


def average(numbers):
    """The average of numbers, as a pair."""
    return pair_of(Fraction(sum(numbers, Fraction(0)), len(numbers)))


def plain_guess(rows, counts):
    """The estimate, as the document tells it."""
    size = sum(counts)
    found = Fraction(len([count for count in counts if count > 0]))
    for count in counts:
        if count > 0:
            found += (-1) ** (count + 1) * Fraction(comb(rows - size + count - 1, count), comb(size, count))
    return found


class Answers(Case):
    def test_expected_by_listing_all_samples(self):
        for counts in SMALL:
            column = Column(counts)
            for size in range(sum(counts) + 1):
                drawn = samples(counts, size)
                for value in range(len(counts)):
                    self.assertEqual(seen_chance(column, value, size), average([value in one for one in drawn]))
                self.assertEqual(expected_filled(column, size), average([len(set(one)) for one in drawn]))
                pairs = [len([1 for a, b in combinations(one, 2) if a == b]) for one in drawn]
                self.assertEqual(expected_pairs(column, size), average(pairs))

    def test_ways_by_listing_all_samples(self):
        for counts in SMALL:
            for size in range(sum(counts) + 1):
                ways = Counter(counts_of(one, len(counts)) for one in samples(counts, size))
                for drawn in all_counts(len(counts), 3):
                    if sum(drawn) == size:
                        self.assertEqual(sample_ways(Column(counts), Column(drawn)), ways[drawn])
        self.assertEqual(sample_ways(Column((9, 0)), Column((0, 1))), 0)
        self.assertEqual(sample_ways(Column((9,) * 12), Column((4,) * 12)), 126 ** 12)

    def test_guess_as_the_document_tells_it(self):
        for counts in SMALL:
            if sum(counts) > 0:
                for rows in (sum(counts), sum(counts) + 1, sum(counts) + 5, 50, 107, 108):
                    self.assertEqual(guess_filled(rows, Column(counts)), pair_of(plain_guess(rows, counts)))
        for counts in some_counts(20, 12, 5):
            if sum(counts) > 0:
                self.assertEqual(guess_filled(108, Column(counts)), pair_of(plain_guess(108, counts)))

    def test_guess_is_right_on_average(self):
        tried = 0
        for counts in SMALL:
            for size in range(max(1, max(counts)), sum(counts) + 1):
                guesses = [Fraction(*guess_filled(sum(counts), Column(counts_of(one, len(counts)))))
                           for one in samples(counts, size)]
                filled = len([count for count in counts if count > 0])
                self.assertEqual(sum(guesses) / len(guesses), filled)
                tried += 1
        self.assertGreater(tried, 40)

    def test_guess_is_not_right_with_greater_counts(self):
        guesses = [Fraction(*guess_filled(3, Column(counts_of(one, 1)))) for one in samples((3,), 1)]
        self.assertNotEqual(sum(guesses) / len(guesses), 1)

    def test_edges(self):
        empty, full = Column((0, 0)), Column((9,) * 12)
        self.assertEqual([seen_chance(empty, 1, 0), expected_filled(empty, 0), expected_pairs(empty, 0)], [(0, 1)] * 3)
        self.assertEqual([seen_chance(full, 11, 1), expected_filled(full, 1), expected_pairs(full, 1)],
                         [(1, 12), (1, 1), (0, 1)])
        self.assertEqual([seen_chance(full, 0, 108), expected_filled(full, 108), expected_pairs(full, 108)],
                         [(1, 1), (12, 1), (432, 1)])
        self.assertEqual(seen_chance(full, 0, 100), (1, 1))
        self.assertEqual(seen_chance(full, 0, 99), (comb(108, 9) - 1, comb(108, 9)))
        self.assertEqual(guess_filled(1, Column((1,))), (1, 1))
        self.assertEqual(guess_filled(108, Column((9,) * 12)), (12, 1))
        self.assertEqual(guess_filled(2, Column((1, 0))), (2, 1))
        self.assertEqual(sample_ways(empty, empty), 1)


class Wrong(Case):
    def test_columns(self):
        column = Column((2, 1))
        for item in NOT_COLUMNS:
            self.all_raise(BadColumn, seen_chance, [(item, 0, 0), (item, None, None), (item, 9, -1)])
            for call in (expected_filled, expected_pairs):
                self.all_raise(BadColumn, call, [(item, 0), (item, None)])
            self.all_raise(BadColumn, sample_ways, [(item, column), (column, item), (item, item), (Column((1,)), item)])
            self.all_raise(BadColumn, guess_filled, [(3, item), (None, item), (-1, item)])

    def test_sizes(self):
        column = Column((2, 1))
        for item in NOT_INTEGERS + (-1, 4, 10 ** 30, (), []):
            self.all_raise(BadNumber, seen_chance, [(column, 0, item), (column, None, item), (column, 2, item)])
            for call in (expected_filled, expected_pairs):
                self.raises(BadNumber, call, column, item)
        for call in (expected_filled, expected_pairs):
            self.raises(BadNumber, call, Column((0, 0)), 1)
        self.raises(BadNumber, seen_chance, Column((0, 0)), 0, 1)

    def test_values(self):
        for item in NOT_INTEGERS + (-1, 2, 12, 10 ** 30, (), []):
            self.raises(BadValue, seen_chance, Column((2, 1)), item, 3)
            self.raises(BadValue, seen_chance, Column((0, 0)), item, 0)

    def test_unlike(self):
        self.all_raise(Unlike, sample_ways, [(Column((1, 2)), Column((1,))), (Column((1,)), Column((1, 0)))])

    def test_rows(self):
        for item in NOT_INTEGERS + (-1, 0, 1, 2, 109, 10 ** 30, (), []):
            self.raises(BadNumber, guess_filled, item, Column((2, 1)))
        for rows in (0, 1, 108, None, True, -1):
            self.raises(BadNumber, guess_filled, rows, Column((0, 0)))


class Newness(Case):
    def test_columns_do_not_change(self):
        column, sample = Column((2, 1, 1)), Column((1, 1, 0))
        for _ in range(2):
            self.assertEqual((seen_chance(column, 0, 2), sample_ways(column, sample)), ((5, 6), 2))
            self.assertEqual(guess_filled(4, sample), (4, 1))
        self.assertEqual((column.counts, sample.counts), ((2, 1, 1), (1, 1, 0)))


if __name__ == "__main__":
    unittest.main()
