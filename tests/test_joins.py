"""Joins: points 1 and 9, the section bucketsums/joins.py."""
import random
import unittest
from fractions import Fraction

from bucketsums.columns import Column
from bucketsums.errors import BadCaps, BadColumn, BadHistogram, NotPossible, Unlike
from bucketsums.histograms import Histogram
from bucketsums.joins import Joined, join_ends, join_estimate, join_size, reach_join
from tests.checking import Case
from tests.plain import (NOT_COLUMNS, NOT_HISTOGRAMS, all_cuts, columns_of, pair_of, small_histograms, some_counts)
from tests.test_bounds import NOT_CAPS


def size_of(counts, others):
    """The rows of the join, pair by pair."""
    rows = [value for value, count in enumerate(counts) for _ in range(count)]
    late = [value for value, count in enumerate(others) for _ in range(count)]
    return len([1 for row in rows for other in late if row == other])


def pairs_of_histograms():
    """Pairs of small histograms with the same cuts, each with its caps."""
    small, found = small_histograms(), []
    for hist, caps in small:
        alike = [row for row in small if (row[0].width, row[0].cuts) == (hist.width, hist.cuts)]
        for other, late in alike[::1 if hist.width < 4 else 2]:
            found.append((hist, caps, other, late))
    return found


PAIRS = pairs_of_histograms()


class Answers(Case):
    def test_join_size(self):
        counts = some_counts(60, 5, 6)
        for one in counts:
            for other in counts:
                if len(one) == len(other):
                    self.assertEqual(join_size(Column(one), Column(other)), size_of(one, other))
        self.assertEqual(join_size(Column((9,) * 12), Column((9,) * 12)), 972)
        self.assertEqual(join_size(Column((0,)), Column((9,))), 0)

    def test_all_pairs_of_columns_listed(self):
        for one, caps, other, late in PAIRS:
            lefts, rights = columns_of(one, caps), columns_of(other, late)
            sizes = [sum(a * b for a, b in zip(left, right)) for left in lefts for right in rights]
            self.assertEqual(join_ends(one, caps, other, late), (min(sizes), max(sizes)))
            found = reach_join(one, caps, other, late)
            for pair, size in ((found.least, min(sizes)), (found.greatest, max(sizes))):
                self.assertIs(type(pair), tuple)
                self.assertIn(pair[0], lefts)
                self.assertIn(pair[1], rights)
                self.assertEqual(size_of(*pair), size)
            self.is_shown(True, found, one, caps, other, late)

    def test_high_caps(self):
        some = ((3, 14, 9, 11, 8), (3, 20, 7, 5, 9), (2, 18, 9, 9, 9), (3, 13, 5, 16, 6))
        for width, total, cap, other, late in some:
            left, right = Histogram(width, (0,), (total,)), Histogram(width, (0,), (other,))
            sizes = [size_of(a, b) for a in columns_of(left, (cap,)) for b in columns_of(right, (late,))]
            self.assertEqual(join_ends(left, (cap,), right, (late,)), (min(sizes), max(sizes)))

    def test_estimate(self):
        for one, caps, other, late in PAIRS:
            wanted = Fraction(0)
            for (start, end), total, second in zip(one.buckets(), one.totals, other.totals):
                wanted += Fraction(total * second, end - start)
            self.assertEqual(join_estimate(one, caps, other, late), pair_of(wanted))
        one, other = Histogram(7, (0,), (10,)), Histogram(7, (0,), (5,))
        self.assertEqual(join_estimate(one, (9,), other, (9,)), (50, 7))
        self.assertEqual(join_estimate(one, (2,), Histogram(7, (0,), (0,)), (0,)), (0, 1))

    def test_twelve_values(self):
        full = Histogram(12, (0,), (108,))
        self.assertEqual(join_ends(full, (9,), full, (9,)), (972, 972))
        half = Histogram(12, (0,), (54,))
        self.assertEqual(join_ends(half, (9,), half, (9,)), (0, 486))
        self.assertEqual(join_ends(half, (9,), half, (5,)), (216, 270))
        every = tuple(range(12))
        one, other = Histogram(12, every, (3,) * 12), Histogram(12, every, (2,) * 12)
        self.assertEqual(join_ends(one, (3,) * 12, other, (9,) * 12), (72, 72))
        self.is_shown(True, reach_join(half, (9,), half, (5,)), half, (9,), half, (5,))

    def test_columns_in_reversed_order(self):
        one, other = Histogram(4, (0,), (7,)), Histogram(4, (0,), (6,))
        found = reach_join(one, (3,), other, (2,))
        turned = Joined([counts[::-1] for counts in found.least], [counts[::-1] for counts in found.greatest])
        self.is_shown(True, turned, one, (3,), other, (2,))
        mixed = Joined((found.least[0], found.least[1][::-1]), found.greatest)
        self.is_shown(False, mixed, one, (3,), other, (2,))


class Certificates(Case):
    def test_every_right_pair_and_no_other(self):
        source = random.Random(2)
        for one, caps, other, late in [row for row in PAIRS if row[0].width == 3][::4]:
            least, greatest = join_ends(one, caps, other, late)
            best = reach_join(one, caps, other, late)
            for left in columns_of(one, caps):
                for right in columns_of(other, late):
                    size = size_of(left, right)
                    self.is_shown(size == least, Joined((left, right), best.greatest), one, caps, other, late)
                    self.is_shown(size == greatest, Joined(best.least, [list(left), right]), one, caps, other, late)
            for _ in range(20):
                left = tuple(source.randint(0, 3) for _ in range(3))
                if left not in columns_of(one, caps):
                    for right in columns_of(other, late):
                        self.is_shown(False, Joined((left, right), best.greatest), one, caps, other, late)

    def test_changed_ones(self):
        one, caps, other, late = Histogram(4, (0, 2), (4, 3)), (3, 3), Histogram(4, (0, 2), (2, 2)), (2, 1)
        least, greatest = ((3, 1, 3, 0), (0, 2, 1, 1)), ((3, 1, 3, 0), (2, 0, 1, 1))
        asked = (one, caps, other, late)
        self.is_shown(True, Joined(least, greatest), *asked)
        self.is_shown(False, Joined(greatest, least), *asked)
        left, right = least
        for pair in ((), (left,), (left, right, right), (right, left), (left[:3], right), (left, right[:3]),
                     (left + (0,), right), ((4, 0, 3, 0), right), ((3, 2, 2, 0), right), ((3, 1, 4, -1), right),
                     (left, (0, 2, 2, 0)), (left, (-1, 3, 1, 1)), ((3, True, 3, 0), right), (left, (False, 2, 1, 1)),
                     ((3, "1", 3, 0), right), (left, (0, 2, 1, None)), (left, (1, 1, 1, 1))):
            self.is_shown(False, Joined(pair, greatest), *asked)
            self.is_shown(False, Joined(least, pair), *asked)
        # These sizes would be right without the caps, or with other totals.
        self.is_shown(False, Joined(((4, 0, 0, 3), (1, 1, 1, 1)), greatest), *asked)
        self.is_shown(False, Joined(least, greatest), one, (9, 9), other, late)

    def test_current_attributes(self):
        one, other = Histogram(2, (0,), (4,)), Histogram(2, (0,), (3,))
        found = reach_join(one, (4,), other, (3,))
        for name in ("least", "greatest"):
            right = getattr(found, name)
            for pair in (list(right), None, 3, (right[0], 3), (list(right[0]), right[1]), right[:1]):
                setattr(found, name, pair)
                self.is_shown(False, found, one, (4,), other, (3,))
            setattr(found, name, right)
            self.is_shown(True, found, one, (4,), other, (3,))


class Wrong(Case):
    def setUp(self):
        self.one, self.other = Histogram(3, (0, 2), (4, 3)), Histogram(3, (0, 2), (2, 2))
        self.calls = (join_ends, reach_join, join_estimate, Joined((), ()).shows)

    def test_join_size(self):
        column = Column((1, 2))
        self.all_raise(BadColumn, join_size, [(item, column) for item in NOT_COLUMNS])
        self.all_raise(BadColumn, join_size, [(column, item) for item in NOT_COLUMNS])
        self.all_raise(Unlike, join_size, [(column, Column((1,))), (Column((1, 2, 3)), column)])

    def test_histograms(self):
        for call in self.calls:
            for item in NOT_HISTOGRAMS:
                self.raises(BadHistogram, call, item, (3, 3), self.other, (2, 2))
                self.raises(BadHistogram, call, item, None, None, None)
                self.raises(BadHistogram, call, self.one, (3, 3), item, (2, 2))
                self.raises(BadHistogram, call, self.one, (3, 3), item, None)

    def test_caps(self):
        for call in self.calls:
            for caps in NOT_CAPS:
                self.raises(BadCaps, call, self.one, caps, self.other, (2, 2))
                self.raises(BadCaps, call, self.one, caps, None, None)
                self.raises(BadCaps, call, self.one, (3, 3), self.other, caps)
                self.raises(BadCaps, call, self.one, (3, 3), Histogram(4, (0, 2), (2, 2)), caps)

    def test_not_possible(self):
        for call in self.calls:
            self.raises(NotPossible, call, self.one, (1, 3), self.other, (2, 2))
            self.raises(NotPossible, call, self.one, (1, 3), None, None)
            self.raises(NotPossible, call, self.one, (3, 3), self.other, (0, 2))
            self.raises(NotPossible, call, self.one, (3, 3), Histogram(4, (0, 2), (2, 2)), (2, 0))

    def test_unlike(self):
        others = [(Histogram(4, (0, 2), (2, 2)), (2, 2)), (Histogram(3, (0, 1), (2, 2)), (2, 2)),
                  (Histogram(3, (0,), (2,)), (2,)), (Histogram(3, (0, 1, 2), (2, 2, 2)), (2, 2, 2))]
        for call in self.calls:
            for other, late in others:
                self.raises(Unlike, call, self.one, (3, 3), other, late)
                self.raises(Unlike, call, other, late, self.one, (3, 3))

    def test_a_histogram_for_all_cuts(self):
        for cuts in all_cuts(3):
            hist = Histogram(3, cuts, (1,) * len(cuts))
            self.assertEqual(join_ends(hist, (1,) * len(cuts), hist, (1,) * len(cuts))[1], len(cuts))


class Newness(Case):
    def test_answers_are_new(self):
        one, other = Histogram(2, (0,), (4,)), Histogram(2, (0,), (3,))
        self.assertIsNot(reach_join(one, (4,), other, (3,)), reach_join(one, (4,), other, (3,)))
        self.assertTrue(reach_join(one, (4,), other, (3,)) == reach_join(one, (4,), other, (3,)))
        self.assertIs(type(join_ends(one, (4,), other, (3,))), tuple)
        self.assertEqual((one.totals, other.totals), ((4,), (3,)))

    def test_arguments_are_not_kept(self):
        least, greatest = [[4, 0], [0, 3]], [[4, 0], [3, 0]]
        found = Joined(least, greatest)
        least[0].append(9)
        greatest.clear()
        self.assertEqual((found.least, found.greatest), (((4, 0), (0, 3)), ((4, 0), (3, 0))))
        self.assertEqual((least, greatest), ([[4, 0, 9], [0, 3]], []))

    def test_equality(self):
        least, greatest = ((4, 0), (0, 3)), ((4, 0), (3, 0))
        found = Joined(least, greatest)
        self.assertTrue(found == Joined([[4, 0], [0, 3]], [[4, 0], [3, 0]]))
        self.assertFalse(found != Joined([[4, 0], [0, 3]], [[4, 0], [3, 0]]))
        self.assert_alone(found, Joined(least, least), Joined(greatest, greatest), (least, greatest), None)


if __name__ == "__main__":
    unittest.main()
