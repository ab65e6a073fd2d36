"""Sums of ranges: points 1 and 7, the section bucketsums/bounds.py."""
import unittest
from itertools import product

from bucketsums.bounds import Ends, capped_ends, possible_sums, reach_ends, sum_ends
from bucketsums.errors import BadCaps, BadFills, BadHistogram, BadRange, NotPossible
from bucketsums.histograms import Histogram
from tests.checking import Case
from tests.plain import (NOT_HISTOGRAMS, NOT_INTEGERS, NOT_RANGES, STRANGE, all_ranges, columns_of, parts,
                         small_histograms)

SMALL = small_histograms()
NINE = [Histogram(2, (0,), (11,)), Histogram(3, (0, 2), (4, 3)), Histogram(3, (0,), (10,)), Histogram(1, (0,), (9,)),
        Histogram(3, (0, 1, 2), (9, 0, 4)), Histogram(2, (0,), (18,)), Histogram(2, (0,), (0,))]
# Nothing of this is caps of two buckets.
NOT_CAPS = STRANGE + ((), (3,), (3, 3, 3), [3, 3], (3, 10), (-1, 3)) + tuple(
    (item, 3) for item in NOT_INTEGERS) + tuple((3, item) for item in NOT_INTEGERS)


def sums_of(columns, first, past):
    """All sums of a range, ascending."""
    return sorted({sum(counts[first:past]) for counts in columns})


def filled(hist, counts):
    """For each bucket the number of its values with rows."""
    return tuple(len([count for count in part if count]) for part in parts(counts, hist.cuts))


class Answers(Case):
    def test_all_columns_listed(self):
        for hist, caps in SMALL:
            columns = columns_of(hist, caps)
            for first, past in all_ranges(hist.width):
                sums = sums_of(columns, first, past)
                self.assertEqual(capped_ends(hist, caps, first, past), (sums[0], sums[-1]))
                self.assertEqual(sums, list(range(sums[0], sums[-1] + 1)))
                found = reach_ends(hist, caps, first, past)
                self.assertIn(found.least, columns)
                self.assertIn(found.greatest, columns)
                self.assertEqual(sum(found.least[first:past]), sums[0])
                self.assertEqual(sum(found.greatest[first:past]), sums[-1])
                self.is_shown(True, found, hist, caps, first, past)

    def test_cap_nine_for_each_bucket(self):
        for hist in NINE:
            columns = columns_of(hist, (9,) * len(hist))
            for first, past in all_ranges(hist.width):
                sums = sums_of(columns, first, past)
                self.assertEqual(sum_ends(hist, first, past), (sums[0], sums[-1]))
                self.assertEqual(capped_ends(hist, (9,) * len(hist), first, past), (sums[0], sums[-1]))

    def test_all_fills(self):
        for hist, caps in SMALL:
            columns = columns_of(hist, caps)
            sizes = [range(end - start + 1) for start, end in hist.buckets()]
            for fills in product(*sizes):
                some = [counts for counts in columns if filled(hist, counts) == fills]
                for first, past in all_ranges(hist.width):
                    if some:
                        found = possible_sums(hist, caps, fills, first, past)
                        self.assertEqual(found, sums_of(some, first, past))
                    else:
                        self.raises(NotPossible, possible_sums, hist, caps, fills, first, past)

    def test_wide_histograms(self):
        hist = Histogram(12, (0, 4, 8), (36, 0, 20))
        self.assertEqual(sum_ends(hist, 0, 12), (56, 56))
        self.assertEqual(sum_ends(hist, 0, 4), (36, 36))
        self.assertEqual(sum_ends(hist, 3, 10), (11, 27))
        self.assertEqual(sum_ends(hist, 9, 11), (2, 18))
        self.assertEqual(capped_ends(hist, (9, 0, 5), 9, 11), (10, 10))
        self.assertEqual(capped_ends(hist, (9, 9, 6), 9, 11), (8, 12))
        self.assertEqual(possible_sums(hist, (9, 0, 9), (4, 0, 3), 8, 9), [0, 2, 3, 4, 5, 6, 7, 8, 9])
        one = Histogram(12, tuple(range(12)), (9,) * 12)
        self.assertEqual(sum_ends(one, 2, 7), (45, 45))
        self.assertEqual(reach_ends(one, (9,) * 12, 2, 7), Ends((9,) * 12, (9,) * 12))
        self.assertEqual(possible_sums(one, (9,) * 12, (1,) * 12, 0, 12), [108])
        flat = Histogram(12, (0,), (108,))
        self.assertEqual(possible_sums(flat, (9,), (12,), 0, 5), [45])
        self.assertEqual(possible_sums(Histogram(12, (0,), (0,)), (0,), (0,), 0, 12), [0])

    def test_sums_with_gaps(self):
        hist = Histogram(4, (0, 2), (3, 8))
        self.assertEqual(possible_sums(hist, (9, 8), (1, 1), 1, 3), [0, 3, 8, 11])


class Certificates(Case):
    def test_every_right_one_and_no_other(self):
        some = [(hist, caps) for hist, caps in SMALL if hist.width == 3][::2]
        for hist, caps in some:
            columns = columns_of(hist, caps)
            others = columns + [counts for counts in product(range(4), repeat=3) if counts not in columns][::3]
            for first, past in all_ranges(3):
                best, sums = reach_ends(hist, caps, first, past), sums_of(columns, first, past)
                for counts in others:
                    inside = sum(counts[first:past])
                    right = counts in columns and inside == sums[0]
                    self.is_shown(right, Ends(counts, best.greatest), hist, caps, first, past)
                    right = counts in columns and inside == sums[-1]
                    self.is_shown(right, Ends(best.least, list(counts)), hist, caps, first, past)

    def test_changed_ones(self):
        hist, caps = Histogram(4, (0, 2), (4, 3)), (3, 3)
        least, greatest = (3, 1, 0, 3), (1, 3, 3, 0)
        self.is_shown(True, Ends(least, greatest), hist, caps, 1, 3)
        wrong = [(), (3, 1, 0), (3, 1, 0, 3, 0), (4, 0, 0, 3), (3, 1, 0, 2), (3, 1, -1, 4), (5, -1, 0, 3),
                 (3, True, 0, 3), (3, 1, False, 3), (3, 1, "0", 3), (3, 1, None, 3), (2, 2, 0, 3), (3, 2, 0, 2)]
        for counts in wrong:
            self.is_shown(False, Ends(counts, greatest), hist, caps, 1, 3)
            self.is_shown(False, Ends(least, counts), hist, caps, 1, 3)
        self.is_shown(False, Ends(greatest, least), hist, caps, 1, 3)
        below = Histogram(3, (0,), (3,))
        self.is_shown(True, Ends((0, 3, 0), (3, 0, 0)), below, (3,), 0, 1)
        self.is_shown(False, Ends((0, 3, 0), (3, 1, -1)), below, (3,), 0, 1)
        self.is_shown(False, Ends(least, greatest), hist, (9, 9), 1, 3)
        self.is_shown(True, Ends(least, greatest), hist, caps, 1, 2)
        self.is_shown(False, Ends(least, greatest), hist, caps, 0, 1)

    def test_current_attributes(self):
        hist = Histogram(2, (0,), (4,))
        found = reach_ends(hist, (4,), 0, 1)
        self.is_shown(True, found, hist, (4,), 0, 1)
        for name in ("least", "greatest"):
            right = getattr(found, name)
            for other in (list(right), None, 4, "04", right + (0,), right[::-1]):
                setattr(found, name, other)
                self.is_shown(False, found, hist, (4,), 0, 1)
            setattr(found, name, right)


class Wrong(Case):
    def setUp(self):
        self.hist = Histogram(3, (0, 2), (4, 3))
        self.capped = (capped_ends, reach_ends, Ends((), ()).shows)

    def test_histograms(self):
        for item in NOT_HISTOGRAMS:
            self.all_raise(BadHistogram, sum_ends, [(item, 0, 1), (item, 1, 1), (item, None, None)])
            for call in self.capped:
                self.all_raise(BadHistogram, call, [(item, (3, 3), 0, 1), (item, None, 1, 1)])
            wrong = [(item, (3, 3), (2, 1), 0, 1), (item, None, None, 1, 1)]
            self.all_raise(BadHistogram, possible_sums, wrong)

    def test_ranges(self):
        for first, past in NOT_RANGES:
            self.raises(BadRange, sum_ends, self.hist, first, past)
            for call in self.capped:
                self.raises(BadRange, call, self.hist, (3, 3), first, past)
            self.raises(BadRange, possible_sums, self.hist, (3, 3), (2, 1), first, past)

    def test_caps(self):
        for caps in NOT_CAPS:
            for call in self.capped:
                self.all_raise(BadCaps, call, [(self.hist, caps, 0, 1), (self.hist, caps, 1, 1)])
            wrong = [(self.hist, caps, (2, 1), 0, 1), (self.hist, caps, None, 1, 1)]
            self.all_raise(BadCaps, possible_sums, wrong)

    def test_caps_that_are_not_possible(self):
        for caps in ((1, 3), (2, 2), (0, 0), (9, 0)):
            for call in self.capped:
                self.all_raise(NotPossible, call, [(self.hist, caps, 0, 1), (self.hist, caps, 1, 1)])
            wrong = [(self.hist, caps, (2, 1), 0, 1), (self.hist, caps, None, 1, 1)]
            self.all_raise(NotPossible, possible_sums, wrong)
        self.assertEqual(capped_ends(self.hist, (2, 3), 0, 1), (2, 2))

    def test_fills(self):
        wrong = STRANGE + ((), (2,), (2, 1, 1), [2, 1], (3, 1), (2, 2), (-1, 1), (2, -1))
        wrong += tuple((item, 1) for item in NOT_INTEGERS) + tuple((2, item) for item in NOT_INTEGERS)
        for fills in wrong:
            calls = [(self.hist, (3, 3), fills, 0, 1), (self.hist, (3, 3), fills, 1, 1)]
            self.all_raise(BadFills, possible_sums, calls)

    def test_fills_that_are_not_possible(self):
        for fills in ((1, 1), (0, 1), (2, 0), (0, 0)):
            calls = [(self.hist, (3, 3), fills, 0, 1), (self.hist, (3, 3), fills, 1, 1)]
            self.all_raise(NotPossible, possible_sums, calls)
        few = Histogram(3, (0,), (2,))
        self.raises(NotPossible, possible_sums, few, (9,), (3,), 0, 1)
        self.raises(NotPossible, possible_sums, Histogram(3, (0,), (0,)), (0,), (1,), 0, 1)
        self.raises(NotPossible, possible_sums, Histogram(3, (0,), (0,)), (9,), (1,), 0, 1)
        self.assertEqual(possible_sums(few, (2,), (1,), 0, 1), [0, 2])
        self.assertEqual(possible_sums(few, (1,), (2,), 0, 1), [0, 1])


class Newness(Case):
    def test_answers_are_new(self):
        hist = Histogram(3, (0, 2), (4, 3))
        self.assertIsNot(reach_ends(hist, (3, 3), 0, 1), reach_ends(hist, (3, 3), 0, 1))
        self.assertTrue(reach_ends(hist, (3, 3), 0, 1) == reach_ends(hist, (3, 3), 0, 1))
        sums = possible_sums(hist, (3, 3), (2, 1), 0, 1)
        sums.append(None)
        self.assertEqual(possible_sums(hist, (3, 3), (2, 1), 0, 1), [1, 2, 3])
        self.assertIs(type(sum_ends(hist, 0, 1)), tuple)
        self.assertEqual((hist.width, hist.cuts, hist.totals), (3, (0, 2), (4, 3)))

    def test_arguments_are_not_kept(self):
        least, greatest = [0, 4], [4, 0]
        found = Ends(least, greatest)
        least.append(9)
        greatest.clear()
        self.assertEqual((found.least, found.greatest), ((0, 4), (4, 0)))
        self.assertEqual((least, greatest), ([0, 4, 9], []))

    def test_equality(self):
        found = Ends((0, 4), (4, 0))
        self.assertTrue(found == Ends([0, 4], [4, 0]))
        self.assertFalse(found != Ends([0, 4], [4, 0]))
        self.assert_alone(found, Ends((0, 4), (4, 1)), Ends((1, 4), (4, 0)), ((0, 4), (4, 0)), None)


if __name__ == "__main__":
    unittest.main()
