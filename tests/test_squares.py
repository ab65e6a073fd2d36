"""Squared errors: points 1 and 5, the section bucketsums/squares.py."""
import unittest
from fractions import Fraction
from itertools import permutations

from bucketsums.columns import Column
from bucketsums.errors import BadColumn, BadCuts, BadNumber
from bucketsums.squares import (Grouping, Squares, best_grouping, best_squares, least_grouping,
                                least_square, square_error, square_profile)
from tests.checking import Case
from tests.plain import (NOT_COLUMNS, NOT_CUTS, NOT_INTEGERS, all_counts, all_cuts, cuts_into,
                         least_error_of_cuts, pair_of, partitions, parts, plain_sums, some_counts,
                         total_error)

SMALL = some_counts(15, 6, 3) + some_counts(10, 4, 4, most=2) + [(0,), (9,), (0, 9, 0, 9), (5, 5, 5)]
WIDE = [(9,) * 12, (0, 9) * 6, (0, 1, 2, 3, 4, 5, 6, 7, 8, 9, 9, 0), (7, 1, 3, 3, 0, 9, 2, 2, 2, 8, 5, 4)]
WITH_NUMBER = (best_squares, least_square, best_grouping, least_grouping)


def error_of_groups(counts, groups):
    return total_error([[counts[value] for value in group] for group in groups])


def all_groupings(width, many):
    return [tuple(sorted(tuple(group) for group in found))
            for found in partitions(list(range(width)), many)]


class Buckets(Case):
    def test_square_error(self):
        for counts in SMALL:
            for cuts in all_cuts(len(counts)):
                wanted = pair_of(total_error(parts(counts, cuts)))
                self.assertEqual(square_error(Column(counts), cuts), wanted)
        self.assertEqual(square_error(Column((0, 0, 1, 0, 0, 0, 0)), (0,)), (6, 7))
        self.assertEqual(square_error(Column((4,) * 12), (0,)), (0, 1))
        self.assertEqual(square_error(Column((0, 9) * 6), tuple(range(12))), (0, 1))
        self.assertEqual(square_error(Column((0, 9) * 6), (0,)), (243, 1))

    def test_all_cuts_tried(self):
        for counts in SMALL:
            column = Column(counts)
            for buckets in range(1, len(counts) + 1):
                least = least_error_of_cuts(counts, buckets)
                self.assertEqual(least_square(column, buckets), pair_of(least))
                found = best_squares(column, buckets)
                self.assertIn(found.cuts, cuts_into(len(counts), buckets))
                self.assertEqual(total_error(parts(counts, found.cuts)), least)
                self.assertEqual(found.sums, plain_sums(counts, buckets))
                self.is_shown(True, found, column, buckets)

    def test_wide_columns(self):
        for counts in WIDE:
            column = Column(counts)
            for buckets in (1, 2, 3, 11, 12):
                least = pair_of(least_error_of_cuts(counts, buckets))
                self.assertEqual(least_square(column, buckets), least)
                found = best_squares(column, buckets)
                self.assertEqual(pair_of(total_error(parts(counts, found.cuts))), least)
                self.assertEqual(len(found.cuts), buckets)
                self.assertEqual(found.sums[(buckets, 12)], least)
                self.assertEqual(len(found.sums), sum(13 - many for many in range(1, buckets + 1)))
                self.is_shown(True, found, column, buckets)

    def test_profile(self):
        for counts in SMALL + WIDE[:2]:
            wanted = [pair_of(least_error_of_cuts(counts, many)) for many in range(1, len(counts) + 1)]
            self.assertEqual(square_profile(Column(counts)), wanted)

    def test_every_right_cuts_and_no_other(self):
        for counts in all_counts(4, 2)[::3] + [(1, 2, 3, 2, 1), (0, 0, 0)]:
            column = Column(counts)
            for buckets in range(1, len(counts) + 1):
                least, sums = least_error_of_cuts(counts, buckets), best_squares(column, buckets).sums
                for cuts in all_cuts(len(counts)):
                    right = len(cuts) == buckets and total_error(parts(counts, cuts)) == least
                    self.is_shown(right, Squares(cuts, sums), column, buckets)
                    self.is_shown(right, Squares(list(cuts), sums), column, buckets)


class Groups(Case):
    def test_all_partitions_tried(self):
        for counts in SMALL:
            column, width = Column(counts), len(counts)
            for many in range(1, width + 1):
                least = min(error_of_groups(counts, found) for found in all_groupings(width, many))
                self.assertEqual(least_grouping(column, many), pair_of(least))
                found = best_grouping(column, many)
                self.assertEqual(error_of_groups(counts, found.groups), least)
                self.assertIn(tuple(sorted(found.groups)), all_groupings(width, many))
                self.assertEqual(found.sums, plain_sums(tuple(sorted(counts)), many))
                self.is_shown(True, found, column, many)

    def test_wide_columns(self):
        for counts in WIDE:
            column = Column(counts)
            for many in (1, 2, 3, 11, 12):
                least = pair_of(least_error_of_cuts(tuple(sorted(counts)), many))
                self.assertEqual(least_grouping(column, many), least)
                found = best_grouping(column, many)
                self.assertEqual(pair_of(error_of_groups(counts, found.groups)), least)
                self.assertEqual(len(found.groups), many)
                self.assertEqual(sorted(value for group in found.groups for value in group), list(range(12)))
                self.is_shown(True, found, column, many)

    def test_every_right_groups_and_no_other(self):
        for counts in all_counts(4, 2)[::5] + [(3, 0, 3, 1, 0)]:
            column, width = Column(counts), len(counts)
            for many in range(1, width + 1):
                least, sums = Fraction(*least_grouping(column, many)), best_grouping(column, many).sums
                for other in range(1, width + 1):
                    for groups in all_groupings(width, other):
                        right = other == many and error_of_groups(counts, groups) == least
                        self.is_shown(right, Grouping(groups, sums), column, many)

    def test_groups_in_any_order(self):
        column = Column((1, 3, 3, 0, 9))
        found = best_grouping(column, 3)
        for groups in permutations(found.groups):
            self.is_shown(True, Grouping(groups, found.sums), column, 3)
            self.is_shown(True, Grouping([list(group) for group in groups], found.sums), column, 3)


class Changed(Case):
    """Certificates that are not right."""

    def setUp(self):
        self.column = Column((1, 3, 3, 0))

    def test_other_cuts(self):
        sums = best_squares(self.column, 2).sums
        wrong = [(0,), (0, 1), (0, 2), (0, 1, 3), (3, 0), (0, 3, 3), (1, 3), (0, 4), (), (0, -1),
                 (False, 3), (0, True), (0, "3"), (0, None)]
        for cuts in wrong:
            self.is_shown(False, Squares(cuts, sums), self.column, 2)
        self.is_shown(True, Squares((0, 3), sums), self.column, 2)
        self.is_shown(False, Squares((0, 3), sums), self.column, 3)
        self.is_shown(False, Squares((0, 3), sums), self.column, 1)
        self.is_shown(False, Squares((0, 3), sums), Column((1, 3, 3, 1)), 2)

    def test_other_groups(self):
        sums = best_grouping(self.column, 2).sums
        wrong = [((0, 1), (2, 3)), ((0,), (1, 2)), ((0, 3), (1, 2), ()), ((0, 3), (2, 1)), ((3, 0), (1, 2)),
                 ((0, 3), (1, 1, 2)), ((0, 3), (0, 1, 2)), ((0, 3), (1, 2, 4)), ((0, 3), (1, 2), (1, 2)),
                 ((0, 1, 2, 3),), ((0, 3), (1,), (2,)), ((False, 3), (1, 2)), ((0, 3), (True, 2)), (), ((),),
                 ((0, 3), ()), ((-1, 3), (1, 2)), ((0, 3), (1, "2")), ((0, 3), (1, None))]
        for groups in wrong:
            self.is_shown(False, Grouping(groups, sums), self.column, 2)
        self.is_shown(True, Grouping(((1, 2), (0, 3)), sums), self.column, 2)
        even = Column((4, 4, 4))
        self.is_shown(True, Grouping(((0, 2), (1,)), best_grouping(even, 2).sums), even, 2)
        self.is_shown(False, Grouping(((0, 1, 2), ()), best_grouping(even, 2).sums), even, 2)
        self.is_shown(False, Grouping(((1, 2), (0, 3)), sums), self.column, 3)
        self.is_shown(False, Grouping(((1, 2), (0, 3)), sums), self.column, 1)

    def test_sums(self):
        for make, best in ((Squares, best_squares), (Grouping, best_grouping)):
            found = best(self.column, 2)
            answer = found.cuts if make is Squares else found.groups
            for key in found.sums:
                top, bottom = found.sums[key]
                for other in ((top + 1, bottom), (top * 2, bottom * 2), (-top, -bottom), (top, bottom + 1),
                              (top, bottom, 1), (top,), top, None, [top, bottom], (str(top), bottom)):
                    self.is_shown(False, make(answer, {**found.sums, key: other}), self.column, 2)
                fewer = {other: found.sums[other] for other in found.sums if other != key}
                self.is_shown(False, make(answer, fewer), self.column, 2)
                for other in (key + (0,), (9, 9), (0, 1), key[:1], key[0], None):
                    renamed = {**fewer, other: found.sums[key]}
                    self.is_shown(False, make(answer, renamed), self.column, 2)
            for key in ((3, 3), (0, 1), (1, 0), (2, 1), (1, 5), 1, "12", None, (1, 2, 3)):
                self.is_shown(False, make(answer, {**found.sums, key: (0, 1)}), self.column, 2)
            self.is_shown(False, make(answer, {}), self.column, 2)

    def test_booleans_in_sums(self):
        column = Column((0, 1, 1))
        for make, best in ((Squares, best_squares), (Grouping, best_grouping)):
            found = best(column, 2)
            answer = found.cuts if make is Squares else found.groups
            self.is_shown(True, make(answer, found.sums), column, 2)
            changed = {key: found.sums[key] for key in found.sums if key != (1, 2)}
            self.is_shown(False, make(answer, {**changed, (True, 2): found.sums[(1, 2)]}), column, 2)
            self.is_shown(False, make(answer, {**found.sums, (1, 1): (0, True)}), column, 2)
            self.is_shown(False, make(answer, {**found.sums, (1, 1): (False, 1)}), column, 2)

    def test_sums_in_any_order(self):
        for make, best in ((Squares, best_squares), (Grouping, best_grouping)):
            found = best(self.column, 3)
            answer = found.cuts if make is Squares else found.groups
            backwards = dict(reversed(list(found.sums.items())))
            self.is_shown(True, make(answer, backwards), self.column, 3)

    def test_current_attributes(self):
        found = best_squares(self.column, 2)
        found.sums[(9, 9)] = (0, 1)
        self.is_shown(False, found, self.column, 2)
        del found.sums[(9, 9)]
        self.is_shown(True, found, self.column, 2)
        for cuts in ((0, 2), [0, 3], None, 3, "03"):
            found.cuts = cuts
            self.is_shown(False, found, self.column, 2)
        found.cuts, found.sums = (0, 3), None
        self.is_shown(False, found, self.column, 2)
        grouped = best_grouping(self.column, 2)
        for groups in (((0, 1), (2, 3)), [(0, 3), (1, 2)], None, 3, ((0, 3), 1), ((0, 3), [1, 2])):
            grouped.groups = groups
            self.is_shown(False, grouped, self.column, 2)


class Wrong(Case):
    def test_square_error(self):
        column = Column((1, 2, 3))
        self.all_raise(BadCuts, square_error, [(column, cuts) for cuts in NOT_CUTS])
        self.all_raise(BadColumn, square_error, [(item, (0,)) for item in NOT_COLUMNS])
        self.all_raise(BadColumn, square_error, [(item, None) for item in NOT_COLUMNS])

    def test_numbers(self):
        column = Column((1, 2, 3))
        calls = WITH_NUMBER + (best_squares(column, 1).shows, best_grouping(column, 1).shows)
        for call in calls:
            wrong = NOT_INTEGERS + (0, -1, 4, 100, (), [])
            self.all_raise(BadNumber, call, [(column, item) for item in wrong])
            self.all_raise(BadColumn, call, [(item, 1) for item in NOT_COLUMNS])
            self.all_raise(BadColumn, call, [(item, 0) for item in NOT_COLUMNS])
            self.raises(BadNumber, call, Column((7,)), 2)

    def test_profile(self):
        self.all_raise(BadColumn, square_profile, [(item,) for item in NOT_COLUMNS])

    def test_errors_come_before_the_answer(self):
        for found in (Squares((), {}), Grouping((), {})):
            self.raises(BadNumber, found.shows, Column((1,)), 2)
            self.raises(BadColumn, found.shows, (1,), 2)


class Newness(Case):
    def test_answers_are_new(self):
        column = Column((1, 3, 3, 0))
        for call in (best_squares, best_grouping):
            first, again = call(column, 2), call(column, 2)
            self.assertIsNot(first, again)
            self.assertIsNot(first.sums, again.sums)
            first.sums.clear()
            self.assertTrue(again == call(column, 2))
            self.is_shown(True, again, column, 2)
        profile = square_profile(column)
        profile.append(None)
        self.assertEqual(len(square_profile(column)), 4)

    def test_arguments_are_not_kept(self):
        column = Column((1, 3, 3, 0))
        cuts, sums = [0, 3], best_squares(column, 2).sums
        found = Squares(cuts, sums)
        cuts.append(9)
        sums[(5, 5)] = (0, 1)
        self.assertEqual(found.cuts, (0, 3))
        self.is_shown(True, found, column, 2)
        groups, sums = [[0, 3], [1, 2]], best_grouping(column, 2).sums
        grouped = Grouping(groups, sums)
        groups[0].append(9)
        groups.append([4])
        sums.clear()
        self.assertEqual(grouped.groups, ((0, 3), (1, 2)))
        self.is_shown(True, grouped, column, 2)
        grouped.sums.clear()
        self.assertEqual(groups, [[0, 3, 9], [1, 2], [4]])

    def test_equality(self):
        sums = {(1, 1): (0, 1)}
        found = Squares((0,), sums)
        self.assertTrue(found == Squares([0], dict(sums)))
        self.assertFalse(found != Squares([0], dict(sums)))
        self.assert_alone(found, Squares((0, 1), sums), Squares((0,), {}), Grouping(((0,),), sums),
                          (0,), None, ((0,), sums))
        grouped = Grouping(((0,),), sums)
        self.assertTrue(grouped == Grouping([[0]], dict(sums)))
        self.assertFalse(grouped != Grouping([[0]], dict(sums)))
        self.assert_alone(grouped, Grouping(((1,),), sums), Grouping(((0,),), {}), Squares((0,), sums),
                          ((0,),), None)
        self.assert_alone(Squares((), {}), Grouping((), {}))


if __name__ == "__main__":
    unittest.main()
