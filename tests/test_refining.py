"""Finer histograms: points 1 and 26, the section bucketsums/refining.py."""
import random
import unittest

from bucketsums.columns import Column
from bucketsums.errors import BadHistogram, Unlike
from bucketsums.histograms import Histogram, histogram
from bucketsums.refining import Clash, Refined, do_agree, refine
from tests.checking import Case
from tests.plain import NOT_HISTOGRAMS, NOT_INTEGERS, all_counts, all_cuts, parts

ONE, OTHER, FAR = Histogram(4, (0, 2), (5, 3)), Histogram(4, (0, 1, 3), (4, 3, 1)), Histogram(4, (0,), (9,))


def told(hist):
    """For each mark of a histogram, how many rows have values below it."""
    marks = hist.cuts + (hist.width,)
    return {mark: sum(hist.totals[:at]) for at, mark in enumerate(marks)}


def has(counts, hist):
    """Whether a column has a histogram."""
    return tuple(sum(part) for part in parts(counts, hist.cuts)) == hist.totals


def do_clash(one, other, first, past):
    """Whether two marks clash, with any number that is told at each of them."""
    for before in [numbers[first] for numbers in (told(one), told(other)) if first in numbers]:
        for below in [numbers[past] for numbers in (told(one), told(other)) if past in numbers]:
            if past >= first and (below < before or below > before + 9 * (past - first)):
                return True
    return False


def small_pairs():
    """Pairs of histograms of one to three values, always the same ones, with many that clash."""
    source, found = random.Random(26), []
    for width in (1, 2, 3):
        for cuts in all_cuts(width):
            for late in all_cuts(width):
                for _ in range(6):
                    pair = []
                    for some in (cuts, late):
                        sizes = [len(part) for part in parts(range(width), some)]
                        low = source.choice((0, 0, 4, 8))
                        pair.append(Histogram(width, some, tuple(source.randint(low * size, 9 * size) for size in sizes)))
                    found.append(tuple(pair))
                column = Column([source.randint(0, 9) for _ in range(width)])
                found.append((histogram(column, cuts), histogram(column, late)))
    return found


def long_pairs():
    """Pairs of histograms of many values, some of the same column, some nearly so."""
    source, found = random.Random(27), []
    for _ in range(120):
        width = source.randint(4, 12)
        counts = [source.choice((0, 9, source.randint(0, 9))) for _ in range(width)]
        pair = []
        for _ in range(2):
            cuts = (0,) + tuple(cut for cut in range(1, width) if source.random() < 0.5)
            pair.append(histogram(Column(counts), cuts))
            if source.random() < 0.5:
                at = source.randrange(width)
                counts[at] = max(0, min(9, counts[at] + source.choice((-1, 1))))
        found.append(tuple(pair))
    return found


class Answers(Case):
    def assert_finer(self, one, other, finer):
        """The finer histogram has the cuts of both, and tells the same at all marks of both."""
        self.assertEqual((type(finer), finer.width), (Histogram, one.width))
        self.assertEqual(finer.cuts, tuple(sorted(set(one.cuts) | set(other.cuts))))
        for hist in (one, other):
            for mark, number in told(hist).items():
                self.assertEqual(told(finer)[mark], number)

    def test_by_listing_all_columns(self):
        seen = [0, 0]
        for one, other in small_pairs():
            columns = [counts for counts in all_counts(one.width, 9) if has(counts, one) and has(counts, other)]
            found = refine(one, other)
            self.assertIs(do_agree(one, other), bool(columns))
            self.assertEqual(type(found), Refined if columns else Clash)
            self.is_shown(True, found, one, other)
            if columns:
                self.assert_finer(one, other, found.finer)
                for counts in columns[:20]:
                    self.assertTrue(has(counts, found.finer))
            else:
                self.assertTrue(do_clash(one, other, found.first, found.past))
            seen[bool(columns)] += 1
        self.assertGreater(min(seen), 20)

    def test_many_values(self):
        seen = [0, 0]
        for one, other in long_pairs():
            found = refine(one, other)
            self.is_shown(True, found, one, other)
            marks = range(one.width + 1)
            clashes = [(first, past) for first in marks for past in marks if do_clash(one, other, first, past)]
            self.assertIs(do_agree(one, other), not clashes)
            if clashes:
                self.assertIn((found.first, found.past), clashes)
            else:
                self.assert_finer(one, other, found.finer)
            seen[not clashes] += 1
        self.assertGreater(min(seen), 20)

    def test_edges(self):
        self.assertTrue(refine(ONE, ONE) == Refined(ONE))
        for hist in (ONE, OTHER, FAR, Histogram(1, (0,), (0,)), Histogram(1, (0,), (9,)), Histogram(12, (0,), (108,)),
                     Histogram(12, tuple(range(12)), (9, 0) * 6)):
            self.assertTrue(refine(hist, hist).finer == hist)
        self.assertEqual(refine(Histogram(1, (0,), (3,)), Histogram(1, (0,), (4,))), Clash(1, 1))
        # Without rows, with one bucket and as many buckets as values.
        late = Histogram(3, (0, 1, 2), (1, 0, 9))
        self.assertTrue(refine(Histogram(3, (0,), (10,)), late).finer == late)
        self.assertTrue(refine(late, Histogram(3, (0,), (10,))).finer == late)
        self.assertEqual(refine(Histogram(3, (0,), (9,)), late), Clash(3, 3))
        # At 0: more rows are below 1 than there can be below 2.
        self.assertFalse(do_agree(Histogram(2, (0, 1), (9, 0)), Histogram(2, (0,), (8,))))
        # No number differs at the same mark, but too many rows are between two marks.
        one, other = Histogram(4, (0, 1), (0, 19)), Histogram(4, (0, 2), (10, 9))
        self.assertEqual(refine(one, other), Clash(1, 2))
        one, other = Histogram(4, (0, 1), (5, 5)), Histogram(4, (0, 2), (4, 6))
        self.assertEqual(refine(one, other), Clash(1, 2))
        one, other = Histogram(4, (0, 1), (1, 18)), Histogram(4, (0, 2), (10, 9))
        self.assertEqual(refine(one, other).finer.totals, (1, 9, 9))


class Certificates(Case):
    def test_all_marks(self):
        shown = [0, 0]
        for one, other in small_pairs()[::2] + long_pairs()[::4] + [(ONE, FAR), (ONE, OTHER)]:
            for first in range(-1, one.width + 2):
                for past in range(-1, one.width + 2):
                    right = do_clash(one, other, first, past)
                    shown[right] += 1
                    self.is_shown(right, Clash(first, past), one, other)
        self.assertGreater(min(shown), 100)

    def test_all_finer_histograms(self):
        for one, other in ((Histogram(3, (0, 2), (5, 3)), Histogram(3, (0, 1), (2, 6))),
                           (Histogram(3, (0,), (4,)), Histogram(3, (0,), (4,))),
                           (Histogram(3, (0, 2), (5, 3)), Histogram(3, (0, 1), (6, 2))), (ONE, FAR)):
            best = refine(one, other)
            for cuts in all_cuts(3):
                for totals in all_counts(len(cuts), 8):
                    late = Histogram(3, cuts, totals)
                    right = isinstance(best, Refined) and best.finer == late
                    self.is_shown(right, Refined(late), one, other)

    def test_changed(self):
        finer = Histogram(4, (0, 1, 2, 3), (4, 1, 2, 1))
        self.is_shown(True, Refined(finer), ONE, OTHER)
        self.is_shown(True, Refined(finer), OTHER, ONE)
        for late in (ONE, OTHER, FAR, Histogram(4, (0, 1, 2, 3), (4, 1, 1, 2)), Histogram(4, (0, 1, 2, 3), (5, 0, 2, 1)),
                     Histogram(4, (0, 1, 2, 3), (4, 1, 2, 2)), Histogram(4, (0, 1, 2), (4, 1, 3)),
                     Histogram(5, (0, 1, 2, 3), (4, 1, 2, 1)), Histogram(5, (0, 1, 2, 3, 4), (4, 1, 2, 1, 0)),
                     None, (0, 1, 2, 3), Column((4, 1, 2, 1)), 3, "4121"):
            self.is_shown(False, Refined(late), ONE, OTHER)
        self.is_shown(False, Refined(ONE), ONE, FAR)
        self.is_shown(False, Refined(FAR), ONE, FAR)
        self.is_shown(False, Clash(0, 4), ONE, OTHER)

    def test_marks_that_are_no_marks(self):
        one, other = Histogram(4, (0, 2), (5, 3)), Histogram(4, (0, 1), (7, 1))
        self.is_shown(True, Clash(1, 2), one, other)
        for first, past in ((2, 1), (1, 3), (3, 3), (1, 1), (2, 2), (0, 1), (True, 2), (1, True), ("1", 2), (1, None),
                            (None, None), ((1,), 2), (1, 5), (-1, 2), (1, 10 ** 30), ([1], 2)):
            self.is_shown(False, Clash(first, past), one, other)
        one, other = Histogram(1, (0,), (1,)), Histogram(1, (0,), (9,))
        self.is_shown(True, Clash(1, 1), one, other)
        for first, past in ((0, 1), (0, 0), (True, True), (True, 1), (1, True), (1, 0)):
            self.is_shown(False, Clash(first, past), one, other)

    def test_another_question(self):
        self.is_shown(False, refine(ONE, OTHER), ONE, ONE)
        self.is_shown(False, refine(ONE, OTHER), OTHER, OTHER)
        self.is_shown(False, refine(ONE, FAR), ONE, OTHER)
        self.is_shown(True, refine(ONE, FAR), FAR, ONE)

    def test_current_attributes(self):
        found = refine(ONE, FAR)
        right = (found.first, found.past)
        for item in (None, "4", True, 3, (4,), [4], 5):
            found.first = item
            self.is_shown(False, found, ONE, FAR)
            found.first, found.past = right[0], item
            self.is_shown(False, found, ONE, FAR)
            found.past = right[1]
        self.is_shown(True, found, ONE, FAR)
        late = refine(ONE, OTHER)
        late.finer = None
        self.is_shown(False, late, ONE, OTHER)


class Wrong(Case):
    def setUp(self):
        self.calls = (refine, do_agree, Clash(0, 0).shows, Refined(ONE).shows)

    def test_histograms(self):
        for item in NOT_HISTOGRAMS:
            for call in self.calls:
                self.all_raise(BadHistogram, call, [(item, ONE), (ONE, item), (item, item),
                                                    (item, Histogram(3, (0,), (1,)))])

    def test_unlike(self):
        for call in self.calls:
            self.all_raise(Unlike, call, [
                (ONE, Histogram(3, (0, 2), (5, 3))), (Histogram(5, (0, 2), (5, 3)), ONE),
                (Histogram(1, (0,), (0,)), Histogram(2, (0,), (0,)))])

    def test_attributes_of_any_kind(self):
        for item in NOT_INTEGERS:
            self.is_shown(False, Clash(item, 4), ONE, FAR)
            self.is_shown(False, Clash(4, item), ONE, FAR)
            self.is_shown(False, Refined(item), ONE, OTHER)


class Newness(Case):
    def test_answers_are_new(self):
        for other in (OTHER, FAR):
            self.assertIsNot(refine(ONE, other), refine(ONE, other))
            self.assertTrue(refine(ONE, other) == refine(ONE, other))
        self.assertEqual((ONE.width, ONE.cuts, ONE.totals), (4, (0, 2), (5, 3)))

    def test_equality(self):
        self.assertTrue(Clash(4, 4) == Clash(4, 4))
        self.assertFalse(Clash(4, 4) != Clash(4, 4))
        self.assert_alone(Clash(3, 4), Clash(4, 4), Clash(3, 3), Clash(4, 3), Refined(4), (3, 4), None)
        self.assertTrue(Refined(ONE) == Refined(Histogram(4, (0, 2), (5, 3))))
        self.assertFalse(Refined(ONE) != Refined(Histogram(4, (0, 2), (5, 3))))
        self.assert_alone(Refined(ONE), Refined(OTHER), ONE, Clash(4, 4), None)


if __name__ == "__main__":
    unittest.main()
