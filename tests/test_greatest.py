"""Spans: points 1 and 6, the section bucketsums/greatest.py."""
import unittest
from itertools import combinations

from bucketsums.columns import Column
from bucketsums.errors import BadColumn, BadCuts, BadNumber
from bucketsums.greatest import Spans, best_spans, fewest_within, greatest_span, least_span, span_profile
from tests.checking import Case
from tests.plain import NOT_COLUMNS, NOT_CUTS, NOT_INTEGERS, all_counts, all_cuts, parts, some_counts

ORDINARY = some_counts(30, 7, 5) + [(0,), (9,), (0, 9), (5, 5, 5, 5), (0, 1, 2, 3, 4, 5, 6), (9, 0, 9, 0)]
WIDE = [(9,) * 12, (0, 9) * 6, (0, 1, 2, 3, 4, 5, 6, 7, 8, 9, 9, 0), (7, 1, 3, 3, 0, 9, 2, 2, 2, 8, 5, 4)]


def plain_span(counts, cuts):
    """The greatest span, from the differences of all pairs in each bucket."""
    return max(abs(one - other) for part in parts(counts, cuts) for one in part for other in part)


def plain_least(counts, buckets):
    """The smallest greatest span, by trying all cuts."""
    return min(plain_span(counts, cuts) for cuts in all_cuts(len(counts)) if len(cuts) <= buckets)


def are_marks(marks, counts, buckets, span):
    """Whether marks are as the document says."""
    if span == 0:
        return marks == ()
    if len(marks) != buckets + 1:
        return False
    for one, other in zip(marks, marks[1:]):
        if max(counts[one:other + 1]) - min(counts[one:other + 1]) < span:
            return False
    return True


def all_marks(width):
    """All ascending tuples of values."""
    return [marks for many in range(width + 1) for marks in combinations(range(width), many)]


class Answers(Case):
    def test_greatest_span(self):
        for counts in ORDINARY:
            for cuts in all_cuts(len(counts)):
                self.assertEqual(greatest_span(Column(counts), cuts), plain_span(counts, cuts))

    def test_all_cuts_tried(self):
        for counts in ORDINARY + WIDE:
            column = Column(counts)
            for buckets in range(1, len(counts) + 1):
                least = plain_least(counts, buckets)
                self.assertEqual(least_span(column, buckets), least)
                found = best_spans(column, buckets)
                self.assertIs(type(found.cuts), tuple)
                self.assertIs(type(found.marks), tuple)
                self.assertIn(found.cuts, all_cuts(len(counts)))
                self.assertLessEqual(len(found.cuts), buckets)
                self.assertEqual(plain_span(counts, found.cuts), least)
                self.assertTrue(are_marks(found.marks, counts, buckets, least))
                self.is_shown(True, found, column, buckets)

    def test_fewest_within(self):
        for counts in ORDINARY + WIDE:
            for span in range(10):
                wanted = min(len(cuts) for cuts in all_cuts(len(counts)) if plain_span(counts, cuts) <= span)
                self.assertEqual(fewest_within(Column(counts), span), wanted)

    def test_profile(self):
        for counts in ORDINARY + WIDE:
            wanted = [plain_least(counts, buckets) for buckets in range(1, len(counts) + 1)]
            self.assertEqual(span_profile(Column(counts)), wanted)

    def test_edges(self):
        self.assertEqual(best_spans(Column((7,)), 1), Spans((0,), ()))
        self.assertEqual(best_spans(Column((0, 9) * 6), 12).marks, ())
        self.assertEqual(len(best_spans(Column((0, 9) * 6), 12).cuts), 12)
        self.assertEqual(best_spans(Column((0, 9) * 6), 11).marks, tuple(range(12)))
        self.assertEqual(least_span(Column((0, 9) * 6), 11), 9)
        self.assertEqual(fewest_within(Column((0, 9) * 6), 8), 12)
        self.assertEqual(fewest_within(Column((0, 9) * 6), 9), 1)


class Certificates(Case):
    def test_every_right_one_and_no_other(self):
        for counts in all_counts(4, 2)[::7] + [(1, 3, 3, 0), (0, 0, 0), (4,), (0, 9)]:
            column, width = Column(counts), len(counts)
            for buckets in range(1, width + 1):
                least, best = plain_least(counts, buckets), best_spans(column, buckets)
                for cuts in all_cuts(width):
                    right = len(cuts) <= buckets and plain_span(counts, cuts) == least
                    self.is_shown(right, Spans(cuts, best.marks), column, buckets)
                for marks in all_marks(width):
                    right = are_marks(marks, counts, buckets, least)
                    self.is_shown(right, Spans(best.cuts, marks), column, buckets)
                    self.is_shown(right, Spans(list(best.cuts), list(marks)), column, buckets)

    def test_changed_ones(self):
        column = Column((1, 3, 3, 0))
        self.is_shown(True, Spans((0, 3), (0, 1, 3)), column, 2)
        for cuts in ((), (0, 1, 3), (3, 0), (0, 4), (1, 3), (0, 3, 3), (False, 3), (0, True), (0, "3"), (0,)):
            self.is_shown(False, Spans(cuts, (0, 1, 3)), column, 2)
        for marks in ((), (0,), (0, 1), (0, 3), (1, 0, 3), (0, 1, 4), (-1, 1, 3), (0, 1, 1), (0, 1, 2), (0, 2, 3, 3),
                      (0, 1, 2, 3), (False, 1, 3), (0, True, 3), (0, 1, "3"), (0, 1, None), (1, 2, 3)):
            self.is_shown(False, Spans((0, 3), marks), column, 2)
        self.is_shown(True, Spans((0, 3), (0, 2, 3)), column, 2)
        for marks in ((0,), (0, 1), (0, 1, 2, 3)):
            self.is_shown(False, Spans((0, 1, 3), marks), column, 3)
        self.is_shown(True, Spans((0, 1, 3), ()), column, 4)
        self.is_shown(False, Spans((0, 3), (0, 1, 3)), column, 1)
        self.is_shown(False, Spans((0, 3), (0, 1, 3)), column, 3)

    def test_current_attributes(self):
        column = Column((1, 3, 3, 0))
        found = best_spans(column, 2)
        for name in ("cuts", "marks"):
            right = getattr(found, name)
            for other in (list(right), None, 3, "03", right[:-1], right + (3,)):
                setattr(found, name, other)
                self.is_shown(False, found, column, 2)
            setattr(found, name, right)
            self.is_shown(True, found, column, 2)
        empty = best_spans(column, 3)
        for other in ([], None, 0, "", {}):
            empty.marks = other
            self.is_shown(False, empty, column, 3)


class Wrong(Case):
    def test_greatest_span(self):
        column = Column((1, 2, 3))
        self.all_raise(BadCuts, greatest_span, [(column, cuts) for cuts in NOT_CUTS])
        self.all_raise(BadColumn, greatest_span, [(item, (0,)) for item in NOT_COLUMNS])
        self.all_raise(BadColumn, greatest_span, [(item, None) for item in NOT_COLUMNS])

    def test_numbers(self):
        column = Column((1, 2, 3))
        for call in (best_spans, least_span, best_spans(column, 1).shows, Spans((), ()).shows):
            wrong = NOT_INTEGERS + (0, -1, 4, 100, (), [])
            self.all_raise(BadNumber, call, [(column, item) for item in wrong])
            self.all_raise(BadColumn, call, [(item, 1) for item in NOT_COLUMNS])
            self.all_raise(BadColumn, call, [(item, 0) for item in NOT_COLUMNS])

    def test_fewest_within(self):
        wrong = NOT_INTEGERS + (-1, 10, 100, (), [])
        self.all_raise(BadNumber, fewest_within, [(Column((1, 2, 3)), item) for item in wrong])
        self.all_raise(BadColumn, fewest_within, [(item, 0) for item in NOT_COLUMNS])
        self.all_raise(BadColumn, fewest_within, [(item, None) for item in NOT_COLUMNS])

    def test_profile(self):
        self.all_raise(BadColumn, span_profile, [(item,) for item in NOT_COLUMNS])


class Newness(Case):
    def test_answers_are_new(self):
        column = Column((1, 3, 3, 0))
        self.assertIsNot(best_spans(column, 2), best_spans(column, 2))
        self.assertTrue(best_spans(column, 2) == best_spans(column, 2))
        profile = span_profile(column)
        profile.append(None)
        self.assertEqual(span_profile(column), [3, 2, 0, 0])

    def test_arguments_are_not_kept(self):
        cuts, marks = [0, 3], [0, 1, 3]
        found = Spans(cuts, marks)
        cuts.append(9)
        marks.clear()
        self.assertEqual((found.cuts, found.marks), ((0, 3), (0, 1, 3)))
        self.assertEqual((cuts, marks), ([0, 3, 9], []))

    def test_equality(self):
        found = Spans((0, 3), (0, 1, 3))
        self.assertTrue(found == Spans([0, 3], [0, 1, 3]))
        self.assertFalse(found != Spans([0, 3], [0, 1, 3]))
        self.assert_alone(found, Spans((0,), (0, 1, 3)), Spans((0, 3), ()), ((0, 3), (0, 1, 3)), None)


if __name__ == "__main__":
    unittest.main()
