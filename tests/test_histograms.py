"""Histograms: points 1, 3 and 4, the section bucketsums/histograms.py."""
import unittest
from fractions import Fraction

from bucketsums.columns import Column
from bucketsums.errors import BadColumn, BadCuts, BadHistogram, BadRange
from bucketsums.histograms import Histogram, caps_of, coarser, estimate, fills_of, histogram
from tests.checking import Case
from tests.plain import (NOT_COLUMNS, NOT_CUTS, NOT_HISTOGRAMS, NOT_INTEGERS, NOT_RANGES, STRANGE, all_cuts,
                         all_ranges, pair_of, parts, some_counts)

ORDINARY = some_counts(12, 6, 2) + [(0,), (9,), (9,) * 12, (0,) * 12]


def few_cuts(width):
    """All cuts, or for wide columns some of them, the edges among them."""
    cuts = all_cuts(width)
    return cuts if len(cuts) <= 64 else [cuts[0], cuts[5], cuts[700], cuts[-1]]


class Answers(Case):
    def test_histogram_one_by_one(self):
        for counts in ORDINARY:
            for cuts in few_cuts(len(counts)):
                column, groups = Column(counts), parts(counts, cuts)
                hist = histogram(column, cuts)
                self.assertEqual((hist.width, hist.cuts), (len(counts), cuts))
                self.assertEqual(hist.totals, tuple(sum(group) for group in groups))
                self.assertEqual(len(hist), len(groups))
                self.assertEqual(caps_of(column, cuts), tuple(max(group) for group in groups))
                filled = tuple(len([count for count in group if count > 0]) for group in groups)
                self.assertEqual(fills_of(column, cuts), filled)
                for answer in (hist.totals, caps_of(column, cuts), fills_of(column, cuts)):
                    self.assertIs(type(answer), tuple)

    def test_buckets(self):
        for counts in ORDINARY:
            values = list(range(len(counts)))
            for cuts in few_cuts(len(counts)):
                found = histogram(Column(counts), cuts).buckets()
                self.assertEqual([list(range(*pair)) for pair in found], parts(values, cuts))
                self.assertTrue(all(type(pair) is tuple for pair in found))

    def test_estimate_value_by_value(self):
        for counts in ORDINARY:
            for cuts in few_cuts(len(counts)):
                hist, shares = histogram(Column(counts), cuts), []
                for group in parts(counts, cuts):
                    shares += [Fraction(sum(group), len(group))] * len(group)
                for first, past in all_ranges(len(counts)):
                    wanted = sum(shares[first:past], Fraction(0))
                    self.assertEqual(estimate(hist, first, past), pair_of(wanted))

    def test_estimate_in_lowest_terms(self):
        hist = Histogram(7, (0, 5), (3, 0))
        self.assertEqual(estimate(hist, 0, 5), (3, 1))
        self.assertEqual(estimate(hist, 0, 2), (6, 5))
        self.assertEqual(estimate(hist, 5, 7), (0, 1))
        self.assertEqual(estimate(Histogram(11, (0,), (9,)), 3, 4), (9, 11))

    def test_coarser(self):
        for counts in ORDINARY:
            column = Column(counts)
            for cuts in few_cuts(len(counts)):
                for fewer in few_cuts(len(counts)):
                    if set(fewer) <= set(cuts):
                        self.assertEqual(coarser(histogram(column, cuts), fewer), histogram(column, fewer))

    def test_greatest_totals(self):
        self.assertEqual(Histogram(12, (0,), (108,)).totals, (108,))
        self.assertEqual(Histogram(1, (0,), (9,)).buckets(), [(0, 1)])
        self.assertEqual(Histogram(3, (0, 1, 2), (9, 0, 9)).totals, (9, 0, 9))


class Wrong(Case):
    def test_width(self):
        wrong = [(width, (0,), (1,)) for width in NOT_INTEGERS + (0, -1, 13, 100, ())]
        self.all_raise(BadHistogram, Histogram, wrong)

    def test_cuts_and_totals(self):
        wrong = [(3, cuts, (1,)) for cuts in NOT_CUTS] + [(3, cuts, (1, 1)) for cuts in NOT_CUTS]
        totals = STRANGE + ([1, 2], (), (1,), (1, 2, 3), (10, 0), (0, 19), (-1, 0), (0, -1))
        wrong += [(3, (0, 1), item) for item in totals]
        wrong += [(3, (0, 1), (item, 1)) for item in NOT_INTEGERS]
        wrong += [(3, (0, 1), (1, item)) for item in NOT_INTEGERS]
        self.all_raise(BadHistogram, Histogram, wrong)

    def test_a_call_that_fails_changes_nothing(self):
        hist = Histogram(3, (0, 1), (1, 2))
        self.raises(BadHistogram, hist.__init__, 2, (0,), (19,))
        self.assertEqual((hist.width, hist.cuts, hist.totals), (3, (0, 1), (1, 2)))

    def test_column_and_cuts(self):
        column = Column((1, 2, 3))
        for call in (histogram, caps_of, fills_of):
            self.all_raise(BadCuts, call, [(column, cuts) for cuts in NOT_CUTS])
            self.all_raise(BadColumn, call, [(item, (0,)) for item in NOT_COLUMNS])
            self.all_raise(BadColumn, call, [(item, None) for item in NOT_COLUMNS])

    def test_estimate(self):
        hist = Histogram(3, (0, 1), (1, 2))
        self.all_raise(BadHistogram, estimate, [(item, 0, 1) for item in NOT_HISTOGRAMS])
        self.all_raise(BadHistogram, estimate, [(item, 1, 1) for item in NOT_HISTOGRAMS])
        self.all_raise(BadRange, estimate, [(hist,) + pair for pair in NOT_RANGES])

    def test_coarser(self):
        hist = Histogram(3, (0, 1), (1, 2))
        self.all_raise(BadHistogram, coarser, [(item, (0,)) for item in NOT_HISTOGRAMS])
        self.all_raise(BadHistogram, coarser, [(item, (1,)) for item in NOT_HISTOGRAMS])
        self.all_raise(BadCuts, coarser, [(hist, cuts) for cuts in NOT_CUTS if cuts != (0, 1)])
        self.all_raise(BadCuts, coarser, [(hist, (0, 2)), (hist, (0, 1, 2)), (hist, (1,))])


class Newness(Case):
    def test_buckets_are_new(self):
        hist = Histogram(3, (0, 1), (1, 2))
        first = hist.buckets()
        first.append("changed")
        self.assertEqual(hist.buckets(), [(0, 1), (1, 3)])

    def test_equality(self):
        hist = Histogram(3, (0, 1), (1, 2))
        self.assertTrue(hist == Histogram(3, (0, 1), (1, 2)))
        self.assertFalse(hist != Histogram(3, (0, 1), (1, 2)))
        self.assertTrue(hist == histogram(Column((1, 2, 0)), (0, 1)))
        self.assert_alone(hist, Histogram(4, (0, 1), (1, 2)), Histogram(3, (0, 2), (1, 2)),
                          Histogram(3, (0, 1), (2, 1)), (3, (0, 1), (1, 2)), (1, 2), None,
                          Column((1, 2, 0)))

    def test_nothing_is_changed(self):
        column = Column((1, 2, 3))
        hist = histogram(column, (0, 1, 2))
        coarser(hist, (0, 2))
        estimate(hist, 0, 2)
        self.assertEqual((hist.width, hist.cuts, hist.totals), (3, (0, 1, 2), (1, 2, 3)))
        self.assertEqual(column.counts, (1, 2, 3))


if __name__ == "__main__":
    unittest.main()
