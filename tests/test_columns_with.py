"""Columns with a histogram: points 1 and 13, the section bucketsums/columns_with.py."""
import random
import unittest

from bucketsums.columns import Column
from bucketsums.columns_with import column_at, count_columns, index_of
from bucketsums.errors import BadColumn, BadHistogram, BadIndex, BadNumber, Unlike
from bucketsums.histograms import Histogram, histogram
from tests.checking import Case
from tests.plain import NOT_COLUMNS, NOT_HISTOGRAMS, NOT_INTEGERS, all_counts, columns_of, small_histograms

HISTOGRAMS = [row[0] for row in small_histograms()[::4]] + [
    Histogram(1, (0,), (9,)), Histogram(1, (0,), (0,)), Histogram(2, (0,), (11,)), Histogram(2, (0,), (18,)),
    Histogram(3, (0, 2), (3, 1)), Histogram(3, (0, 1), (9, 0)), Histogram(3, (0,), (14,)),
]


def listed(hist, most):
    """The counts of all columns with the histogram, in their order."""
    return sorted(columns_of(hist, (most,) * len(hist)))


class Answers(Case):
    def test_by_listing_all_columns(self):
        for hist in HISTOGRAMS:
            for most in (0, 1, 2, 3, 5, 9):
                columns = listed(hist, most)
                self.assertEqual(count_columns(hist, most), len(columns))
                found = [column_at(hist, most, index) for index in range(len(columns))]
                self.assertEqual([column.counts for column in found], columns)
                self.assertEqual([index_of(hist, most, column) for column in found], list(range(len(columns))))
                for index in (-1, len(columns), len(columns) + 1, 10 ** 40, -10 ** 40):
                    self.raises(BadIndex, column_at, hist, most, index)

    def test_every_greatest_count(self):
        hist = Histogram(3, (0, 2), (10, 4))
        for most in range(10):
            self.assertEqual(count_columns(hist, most), len(listed(hist, most)))
        self.assertEqual([count_columns(hist, most) for most in range(6)], [0, 0, 0, 0, 0, 1])

    def test_all_columns_of_three_values(self):
        for cuts in ((0,), (0, 1), (0, 2), (0, 1, 2)):
            totals = sorted({histogram(Column(counts), cuts).totals for counts in all_counts(3, 2)})
            many = sum(count_columns(Histogram(3, cuts, one), 2) for one in totals)
            self.assertEqual(many, 27)

    def test_twelve_values(self):
        hist = Histogram(12, (0,), (54,))
        # As many as there are strings of twelve digits with the digit sum 54.
        many = count_columns(hist, 9)
        self.assertEqual(many, 39581170420)
        self.assertEqual(column_at(hist, 9, 0).counts, (0,) * 6 + (9,) * 6)
        self.assertEqual(column_at(hist, 9, many - 1).counts, (9,) * 6 + (0,) * 6)
        source = random.Random(13)
        indices = sorted({source.randint(0, many - 1) for _ in range(40)})
        columns = [column_at(hist, 9, index) for index in indices]
        self.assertEqual([column.counts for column in columns], sorted(column.counts for column in columns))
        self.assertEqual([index_of(hist, 9, column) for column in columns], indices)
        self.assertEqual({sum(column.counts) for column in columns}, {54})
        self.raises(BadIndex, column_at, hist, 9, many)
        every = Histogram(12, tuple(range(12)), (3,) * 12)
        self.assertEqual([count_columns(every, most) for most in (2, 3)], [0, 1])
        self.assertEqual(column_at(every, 3, 0).counts, (3,) * 12)
        self.assertEqual(count_columns(Histogram(12, (0, 6), (1, 1)), 9), 36)
        self.assertEqual(count_columns(Histogram(12, (0,), (108,)), 9), 1)
        self.assertEqual(count_columns(Histogram(12, (0,), (108,)), 8), 0)


class Wrong(Case):
    def setUp(self):
        self.hist = Histogram(3, (0, 2), (3, 1))
        self.column = Column((2, 1, 1))

    def test_histograms(self):
        for item in NOT_HISTOGRAMS:
            self.all_raise(BadHistogram, count_columns, [(item, 9), (item, None)])
            self.all_raise(BadHistogram, column_at, [(item, 9, 0), (item, 10, -1), (item, None, None)])
            self.all_raise(BadHistogram, index_of, [(item, 9, self.column), (item, None, None)])

    def test_greatest_counts(self):
        for item in NOT_INTEGERS + (-1, 10, 10 ** 30, (), []):
            self.raises(BadNumber, count_columns, self.hist, item)
            self.all_raise(BadNumber, column_at, [(self.hist, item, 0), (self.hist, item, None)])
            self.all_raise(BadNumber, index_of, [(self.hist, item, self.column), (self.hist, item, None)])

    def test_indices(self):
        for item in NOT_INTEGERS + (-1, 4, (), []):
            self.raises(BadIndex, column_at, self.hist, 9, item)
        self.raises(BadIndex, column_at, self.hist, 0, 0)
        self.raises(BadIndex, column_at, self.hist, 1, 0)

    def test_columns(self):
        for item in NOT_COLUMNS:
            self.raises(BadColumn, index_of, self.hist, 9, item)

    def test_unlike(self):
        for counts in ((2, 1), (2, 1, 1, 0), (2, 1, 0), (2, 0, 1), (3, 1, 1), (1, 1, 2), (0,), (4,), (1, 2, 0, 1)):
            self.raises(Unlike, index_of, self.hist, 9, Column(counts))
        self.raises(Unlike, index_of, self.hist, 2, Column((3, 0, 1)))
        self.raises(Unlike, index_of, self.hist, 0, self.column)
        for counts in all_counts(3, 3):
            if counts not in listed(self.hist, 2):
                self.raises(Unlike, index_of, self.hist, 2, Column(counts))


class Newness(Case):
    def test_answers_are_new(self):
        hist = Histogram(2, (0,), (3,))
        self.assertIsNot(column_at(hist, 9, 0), column_at(hist, 9, 0))
        self.assertTrue(column_at(hist, 9, 0) == Column((0, 3)))
        self.assertEqual((hist.width, hist.cuts, hist.totals), (2, (0,), (3,)))


if __name__ == "__main__":
    unittest.main()
