"""Absolute errors: points 1 and 12, the section bucketsums/absolute.py."""
import random
import unittest

from bucketsums.absolute import Absolute, best_absolute, bucket_error, fewest_buckets, least_error
from bucketsums.columns import Column
from bucketsums.errors import BadColumn, BadNumber, BadRange
from bucketsums.squares import best_squares
from tests.checking import Case
from tests.plain import (NOT_COLUMNS, NOT_INTEGERS, NOT_RANGES, all_ranges, cuts_into, parts, some_counts)

EDGES = [(0,), (9,), (0, 0, 0), (9,) * 6, (0, 9), (9, 0, 9, 0), (0, 9, 0, 9, 0, 9), (1, 1, 5, 6), (0, 1, 2, 3, 4, 5),
         (4, 4)]
ALL = EDGES + some_counts(40, 6, 12)
COLUMN = Column((1, 1, 5, 6))


def plain_error(counts):
    """The absolute error of a bucket, by trying all numbers from 0 to 9."""
    return min(sum(abs(number - count) for count in counts) for number in range(10))


def cuts_error(counts, cuts):
    """The error of cuts, bucket by bucket."""
    return sum(plain_error(part) for part in parts(counts, cuts))


def plain_least(counts, buckets):
    """The least error, by trying all cuts."""
    return min(cuts_error(counts, cuts) for cuts in cuts_into(len(counts), buckets))


def plain_table(counts, buckets):
    """The least errors for all pairs, by trying all cuts."""
    return {(many, past): plain_least(counts[:past], many)
            for many in range(1, buckets + 1) for past in range(many, len(counts) + 1)}


def is_right(counts, buckets, cuts, table):
    """Whether cuts and a table are as the document says it."""
    width = len(counts)
    if cuts not in cuts_into(width, buckets) or set(table) != set(plain_table(counts, buckets)):
        return False
    for many, past in table:
        if many == 1 and table[1, past] > plain_error(counts[:past]):
            return False
        for first in range(many - 1, past):
            if many > 1 and table[many, past] > table[many - 1, first] + plain_error(counts[first:past]):
                return False
    return table[buckets, width] == cuts_error(counts, cuts)


class Answers(Case):
    def test_bucket_error_by_trying_all_numbers(self):
        for counts in ALL + [tuple(range(10)) + (9, 9)]:
            for first, past in all_ranges(len(counts)):
                self.assertEqual(bucket_error(Column(counts), first, past), plain_error(counts[first:past]))

    def test_least_error_by_trying_all_cuts(self):
        for counts in ALL:
            for buckets in range(1, len(counts) + 1):
                self.assertEqual(least_error(Column(counts), buckets), plain_least(counts, buckets))

    def test_best_absolute_by_trying_all_cuts(self):
        for counts in ALL:
            for buckets in range(1, len(counts) + 1):
                found = best_absolute(Column(counts), buckets)
                self.assertIs(type(found.cuts), tuple)
                self.assertIs(type(found.table), dict)
                self.assertIn(found.cuts, cuts_into(len(counts), buckets))
                self.assertEqual(cuts_error(counts, found.cuts), plain_least(counts, buckets))
                self.assertTrue(is_right(counts, buckets, found.cuts, found.table))
                self.is_shown(True, found, Column(counts), buckets)

    def test_fewest_buckets_by_trying_all_cuts(self):
        for counts in ALL:
            least = [plain_least(counts, buckets) for buckets in range(1, len(counts) + 1)]
            for error in list(range(12)) + [53, 54, 55, 107, 108]:
                wanted = 1 + [found <= error for found in least].index(True)
                self.assertEqual(fewest_buckets(Column(counts), error), wanted)

    def test_twelve_values(self):
        column = Column((0, 9) * 6)
        self.assertEqual(bucket_error(column, 0, 12), 54)
        self.assertEqual([least_error(column, buckets) for buckets in (1, 2, 11, 12)], [54, 45, 9, 0])
        self.assertEqual(fewest_buckets(column, 0), 12)
        self.assertEqual(fewest_buckets(column, 54), 1)
        self.assertEqual(fewest_buckets(column, 53), 2)
        self.assertEqual(fewest_buckets(Column((9,) * 12), 0), 1)
        for counts in some_counts(4, 1, 3) + [(3, 1, 4, 1, 5, 9, 2, 6, 5, 3, 5, 8)]:
            for buckets in range(1, len(counts) + 1):
                self.assertEqual(least_error(Column(counts), buckets), plain_least(counts, buckets))
                self.is_shown(True, best_absolute(Column(counts), buckets), Column(counts), buckets)


class Certificates(Case):
    def test_every_right_cuts_and_no_other(self):
        for counts in ALL[::3]:
            for buckets in range(1, len(counts) + 1):
                table = plain_table(counts, buckets)
                for cuts in cuts_into(len(counts), buckets):
                    wanted = cuts_error(counts, cuts) == table[buckets, len(counts)]
                    self.is_shown(wanted, Absolute(list(cuts), table), Column(counts), buckets)

    def test_moved_integers(self):
        source, shown = random.Random(1), []
        for counts in ALL:
            for buckets in range(1, len(counts) + 1):
                for _ in range(6):
                    found = best_absolute(Column(counts), buckets)
                    for _ in range(source.randint(1, 2)):
                        key = source.choice(sorted(found.table))
                        found.table[key] += source.choice((-9, -1, 1, 2))
                    right = is_right(counts, buckets, found.cuts, found.table)
                    shown.append(right)
                    self.is_shown(right, found, Column(counts), buckets)
        self.assertGreater(shown.count(True), 100)
        self.assertGreater(shown.count(False), 100)

    def test_smaller_integers(self):
        table = plain_table(COLUMN.counts, 3)
        self.is_shown(True, Absolute((0, 2, 3), table), COLUMN, 3)
        # No other integer depends on those of all values in fewer buckets.
        smaller = dict(table)
        smaller[1, 4] = -100
        smaller[2, 4] = 0
        self.is_shown(True, Absolute((0, 2, 3), smaller), COLUMN, 3)
        # But the next ones depend on this one.
        smaller[1, 2] = -1
        self.is_shown(False, Absolute((0, 2, 3), smaller), COLUMN, 3)
        smaller = dict(table)
        smaller[3, 4] = -1
        self.is_shown(False, Absolute((0, 2, 3), smaller), COLUMN, 3)

    def test_too_small_an_error_is_not_claimed(self):
        table = plain_table(COLUMN.counts, 2)
        self.is_shown(True, Absolute((0, 2), table), COLUMN, 2)
        self.is_shown(False, Absolute((0, 2), dict(table) | {(2, 4): 0}), COLUMN, 2)
        self.is_shown(False, Absolute((0, 3), dict(table) | {(2, 4): 4}), COLUMN, 2)
        self.is_shown(False, Absolute((0, 3), table), COLUMN, 2)
        self.is_shown(False, Absolute((0, 1), table), COLUMN, 2)

    def test_any_order(self):
        table = plain_table(COLUMN.counts, 3)
        turned = {key: table[key] for key in reversed(table)}
        self.is_shown(True, Absolute((0, 2, 3), turned), COLUMN, 3)
        self.assertTrue(Absolute((0, 2, 3), turned) == Absolute((0, 2, 3), table))

    def test_keys(self):
        table = plain_table(COLUMN.counts, 2)
        for key in table:
            fewer = {other: table[other] for other in table if other != key}
            self.is_shown(False, Absolute((0, 2), fewer), COLUMN, 2)
        for key in ((3, 4), (3, 3), (0, 0), (0, 4), (2, 1), (1, 0), (2, 5), (1, 5), (True, 9), (1,), 1, "a", None,
                    (1, 2, 3)):
            self.is_shown(False, Absolute((0, 2), dict(table) | {key: 0}), COLUMN, 2)
            fewer = {other: table[other] for other in table if other != (1, 4)} | {key: 0}
            self.is_shown(False, Absolute((0, 2), fewer), COLUMN, 2)
        for wrong in ((True, 4), (1, True)):
            key = (1, 4) if wrong[0] is True else (1, 1)
            odd = {other: table[other] for other in table if other != key} | {wrong: 0}
            self.is_shown(False, Absolute((0, 2), odd), COLUMN, 2)
        for worth in (True, False, None, "0", (0,), (0, 1)):
            self.is_shown(False, Absolute((0, 2), dict(table) | {(1, 1): worth}), COLUMN, 2)
        self.is_shown(False, Absolute((0,), {(1, 1): False}), Column((4,)), 1)
        self.is_shown(False, Absolute((0,), {}), Column((4,)), 1)

    def test_cuts(self):
        table = plain_table(COLUMN.counts, 2)
        for cuts in ((), (0,), (0, 1, 2), (2,), (0, 4), (2, 0), (False, 2), (0, 2, 2), (1, 2), ("0", 2), (0, None)):
            self.is_shown(False, Absolute(cuts, table), COLUMN, 2)
        self.is_shown(False, Absolute((0, True), {(1, 1): 0, (1, 2): 0, (2, 2): 0}), Column((4, 4)), 2)
        self.is_shown(True, Absolute((0, 1), {(1, 1): 0, (1, 2): 0, (2, 2): 0}), Column((4, 4)), 2)

    def test_current_attributes(self):
        found = best_absolute(COLUMN, 2)
        for cuts in ([0, 2], None, 2, "02", (0, 1)):
            found.cuts = cuts
            self.is_shown(False, found, COLUMN, 2)
        found.cuts = (0, 2)
        self.is_shown(True, found, COLUMN, 2)
        right = found.table
        for table in (None, 3, sorted(right), [(key, right[key]) for key in right], {}, tuple(right)):
            found.table = table
            self.is_shown(False, found, COLUMN, 2)

    def test_another_column(self):
        found = best_absolute(COLUMN, 2)
        self.is_shown(False, found, Column((1, 1, 5, 7)), 2)
        self.is_shown(False, found, Column((1, 1, 5)), 2)
        self.is_shown(False, found, COLUMN, 1)
        self.is_shown(False, found, COLUMN, 3)


class Wrong(Case):
    def setUp(self):
        self.calls = (best_absolute, least_error, best_absolute(COLUMN, 2).shows)

    def test_columns(self):
        for item in NOT_COLUMNS:
            for call in self.calls + (fewest_buckets,):
                self.all_raise(BadColumn, call, [(item, 1), (item, None)])
            self.all_raise(BadColumn, bucket_error, [(item, 0, 1), (item, None, None)])

    def test_ranges(self):
        self.all_raise(BadRange, bucket_error, [(Column((1, 2, 3)),) + pair for pair in NOT_RANGES])

    def test_numbers(self):
        for item in NOT_INTEGERS + (0, -1, 5, 12, 10 ** 30, (), []):
            for call in self.calls:
                self.raises(BadNumber, call, COLUMN, item)
        for item in NOT_INTEGERS + (-1, 109, -10 ** 30, 10 ** 30, (), []):
            self.raises(BadNumber, fewest_buckets, COLUMN, item)


class Newness(Case):
    def test_answers_are_new(self):
        found, other = best_absolute(COLUMN, 2), best_absolute(COLUMN, 2)
        self.assertIsNot(found, other)
        self.assertTrue(found == other)
        found.table.clear()
        self.is_shown(True, other, COLUMN, 2)
        self.is_shown(True, best_absolute(COLUMN, 2), COLUMN, 2)

    def test_arguments_are_not_kept(self):
        cuts, table = [0], {(1, 1): 0, (1, 2): 0}
        found = Absolute(cuts, table)
        cuts.append(1)
        table[1, 1] = 5
        self.assertEqual((found.cuts, found.table), ((0,), {(1, 1): 0, (1, 2): 0}))
        self.assertEqual((cuts, table), ([0, 1], {(1, 1): 5, (1, 2): 0}))

    def test_equality(self):
        found = Absolute((0,), {(1, 1): 0})
        self.assertTrue(found == Absolute([0], {(1, 1): 0}))
        self.assertFalse(found != Absolute([0], {(1, 1): 0}))
        self.assert_alone(found, Absolute((0, 1), {(1, 1): 0}), Absolute((0,), {(1, 1): 1}), Absolute((0,), {}),
                          best_squares(Column((4,)), 1), ((0,), {(1, 1): 0}), None)


if __name__ == "__main__":
    unittest.main()
