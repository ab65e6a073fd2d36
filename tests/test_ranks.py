"""Ranks: points 1 and 16, the section bucketsums/ranks.py."""
import random
import unittest
from itertools import combinations, combinations_with_replacement

from bucketsums.columns import Column
from bucketsums.errors import BadColumn, BadNumber, BadPlaces, BadValue
from bucketsums.ranks import Marks, below_bounds, fewest_ranks, keep_ranks, widest
from tests.checking import Case
from tests.plain import NOT_COLUMNS, NOT_INTEGERS, STRANGE, all_subsets, some_counts

# Nothing of this is some of the ranks 0, 1 and 2.
NOT_RANKS = STRANGE + (
    [], [0], [0, 1], (3,), (0, 3), (-1,), (-1, 0), (1, 0), (0, 0), (2, 2), (0, 1, 2, 3), (True,), (False,), (0, True),
    (False, 1), ("0",), (None,), ((0,),), (0, (1,)), ([0],), (0, None), (2, 10 ** 30),
)

# As many rows as the index says.
BY_ROWS = [None, Column((1,)), Column((2, 0)), Column((0, 0, 3)), Column((1, 2, 1)), Column((0, 5)), Column((2, 0, 4)),
           Column((2, 0, 4, 1)), Column((1,) * 8), Column((9,))]


def are_near(kept, rows, error):
    """Whether each rank differs by at most the error from a kept one."""
    return all(any(abs(rank - one) <= error for one in kept) for rank in range(rows))


def are_far(ranks, error):
    """Whether each two ranks differ by more than twice the error."""
    return all(abs(one - other) > 2 * error for one, other in combinations(ranks, 2))


def plain_fewest(rows, error):
    """The fewest ranks that are near all others, by trying all sets of ranks."""
    return min(len(kept) for kept in all_subsets(rows) if are_near(kept, rows, error))


def possible_below(column, kept, value):
    """The numbers of rows below a value, for all sorted rows with the same values at the ranks kept.

    Only these values are known, so the other rows may have any values.
    """
    rows, found = column.sorted_rows(), []
    for late in combinations_with_replacement(range(-1, len(column) + 1), len(rows)):
        if all(late[rank] == rows[rank] for rank in kept):
            found.append(len([1 for one in late if one < value]))
    return (min(found), max(found))


class Answers(Case):
    def test_fewest_by_trying_all_sets(self):
        for rows in range(1, 10):
            for error in list(range(rows + 1)) + [107, 108]:
                fewest = plain_fewest(rows, error)
                self.assertEqual(fewest_ranks(BY_ROWS[rows], error), fewest)
                found = keep_ranks(BY_ROWS[rows], error)
                self.assertEqual((type(found.kept), type(found.far)), (tuple, tuple))
                self.assertEqual((len(found.kept), len(found.far)), (fewest, fewest))
                self.assertIn(found.kept, all_subsets(rows))
                self.assertIn(found.far, all_subsets(rows))
                self.assertTrue(are_near(found.kept, rows, error))
                self.assertTrue(are_far(found.far, error))
                self.is_shown(True, found, BY_ROWS[rows], error)

    def test_many_rows(self):
        full = Column((9,) * 12)
        for error in range(109):
            found = keep_ranks(full, error)
            self.assertTrue(are_near(found.kept, 108, error))
            self.assertTrue(are_far(found.far, error))
            self.assertLessEqual(set(found.kept + found.far), set(range(108)))
            self.assertEqual([len(found.kept), len(found.far)], [fewest_ranks(full, error)] * 2)
            self.is_shown(True, found, full, error)
        self.assertEqual([fewest_ranks(full, error) for error in (0, 1, 53, 54, 107, 108)], [108, 36, 2, 1, 1, 1])
        self.assertEqual(keep_ranks(Column((1,)), 108).kept, (0,))

    def test_bounds_by_listing_all_rows(self):
        for counts in ((2, 0, 2), (1, 3), (0, 0, 3), (1, 1, 1, 1), (4,), (0,), (0, 0), (2, 0, 1, 2)):
            column = Column(counts)
            for kept in all_subsets(sum(counts)):
                bounds = [possible_below(column, kept, value) for value in range(len(counts) + 1)]
                for value, wanted in enumerate(bounds):
                    found = below_bounds(column, kept, value)
                    self.assertIs(type(found), tuple)
                    self.assertEqual(found, wanted)
                self.assertEqual(widest(column, kept), max(most - least for least, most in bounds))

    def test_bounds_as_the_document_tells_them(self):
        source = random.Random(16)
        for counts in some_counts(40, 12, 16):
            column, rows = Column(counts), [value for value, count in enumerate(counts) for _ in range(count)]
            kept = tuple(sorted(source.sample(range(len(rows)), min(len(rows), source.randint(0, 6)))))
            differences = []
            for value in range(len(counts) + 1):
                below = [rank for rank in kept if rows[rank] < value]
                others = [rank for rank in kept if rows[rank] >= value]
                wanted = (below[-1] + 1 if below else 0, others[0] if others else len(rows))
                self.assertEqual(below_bounds(column, kept, value), wanted)
                self.assertTrue(wanted[0] <= column.prefixes()[value] <= wanted[1])
                differences.append(wanted[1] - wanted[0])
            self.assertEqual(widest(column, kept), max(differences))

    def test_edges(self):
        empty = Column((0, 0))
        self.assertEqual([below_bounds(empty, (), value) for value in range(3)], [(0, 0)] * 3)
        self.assertEqual(widest(empty, ()), 0)
        column = Column((2, 0, 4, 1))
        self.assertEqual(below_bounds(column, (), 0), (0, 7))
        self.assertEqual(below_bounds(column, (3,), 0), (0, 3))
        self.assertEqual(below_bounds(column, (3,), 4), (4, 7))
        self.assertEqual([below_bounds(column, tuple(range(7)), value) for value in range(5)],
                         [(0, 0), (2, 2), (2, 2), (6, 6), (7, 7)])
        self.assertEqual(widest(column, tuple(range(7))), 0)


class Certificates(Case):
    def test_every_right_ranks_and_no_others(self):
        for rows in range(1, 7):
            for error in (0, 1, 2, 3, 108):
                fewest = plain_fewest(rows, error)
                best = keep_ranks(BY_ROWS[rows], error)
                for ranks in all_subsets(rows):
                    near = len(ranks) == fewest and are_near(ranks, rows, error)
                    self.is_shown(near, Marks(list(ranks), best.far), BY_ROWS[rows], error)
                    far = len(ranks) == fewest and are_far(ranks, error)
                    self.is_shown(far, Marks(best.kept, list(ranks)), BY_ROWS[rows], error)

    def test_one_too_many_or_too_few(self):
        column = Column((2, 0, 4, 1))
        self.is_shown(True, Marks((1, 4, 6), (0, 3, 6)), column, 1)
        self.is_shown(True, Marks((1, 4, 5), (0, 3, 6)), column, 1)
        # With as many in both, the ranks are not far from each other, or not near all.
        self.is_shown(False, Marks((0, 1, 4, 6), (0, 2, 3, 6)), column, 1)
        self.is_shown(False, Marks((1, 4), (0, 3)), column, 1)
        self.is_shown(False, Marks((1, 4, 5, 6), (0, 3, 6)), column, 1)
        self.is_shown(False, Marks((1, 4, 6), (0, 3)), column, 1)
        self.is_shown(False, Marks((), ()), column, 1)
        self.is_shown(False, Marks((), ()), column, 108)

    def test_changed_ranks(self):
        column = Column((2, 0, 4, 1))
        wrong = ((4, 1, 6), (1, 1, 6), (1, 4, 7), (-1, 2, 5), (True, 4, 6), (1, 4, "6"), (1, None, 6), (0, 4, 6),
                 (1, 2, 6), ((1, 4, 6),), (1, 4, 6, 6))
        for kept in wrong:
            self.is_shown(False, Marks(kept, (0, 3, 6)), column, 1)
        for far in ((0, 2, 6), (0, 3, 5), (1, 3, 6), (0, 3, 7), (-1, 3, 6), (False, 3, 6), (0, 6, 3), (0, 0, 6),
                    (0, 3, None), (0, 3, 6, 9), ("0", 3, 6)):
            self.is_shown(False, Marks((1, 4, 6), far), column, 1)
        self.is_shown(False, Marks((1, 4, 6), (0, 3, 6)), column, 0)
        self.is_shown(False, Marks((1, 4, 6), (0, 3, 6)), column, 2)
        self.is_shown(False, Marks((1, 4, 6), (0, 3, 6)), Column((9,)), 1)
        self.is_shown(False, Marks((1, 4, 6), (0, 3, 6)), Column((6,)), 1)

    def test_current_attributes(self):
        column = Column((2, 0, 4, 1))
        found = keep_ranks(column, 1)
        for name in ("kept", "far"):
            right = getattr(found, name)
            for ranks in (list(right), None, 3, "036", {0: 3, 3: 1, 6: 1}, right[:2], (0, 3, 3)):
                setattr(found, name, ranks)
                self.is_shown(False, found, column, 1)
            setattr(found, name, right)
            self.is_shown(True, found, column, 1)


class Wrong(Case):
    def setUp(self):
        self.column = Column((1, 0, 2))
        self.by_error = (keep_ranks, fewest_ranks, Marks((), ()).shows)

    def test_columns(self):
        for item in NOT_COLUMNS:
            for call in self.by_error:
                self.all_raise(BadColumn, call, [(item, 1), (item, None), (item, -1)])
            self.all_raise(BadColumn, below_bounds, [(item, (), 0), (item, None, None), (item, [], -1)])
            self.all_raise(BadColumn, widest, [(item, ()), (item, None)])

    def test_errors(self):
        for call in self.by_error:
            for item in NOT_INTEGERS + (-1, 109, 10 ** 30, -10 ** 30, (), []):
                self.raises(BadNumber, call, self.column, item)
            for item in (0, 1, 108, None, 109):
                self.raises(BadNumber, call, Column((0, 0)), item)

    def test_ranks(self):
        for item in NOT_RANKS:
            self.all_raise(BadPlaces, below_bounds, [(self.column, item, 1), (self.column, item, None),
                                                     (self.column, item, 99)])
            self.raises(BadPlaces, widest, self.column, item)
        self.raises(BadPlaces, below_bounds, Column((0, 0)), (0,), 1)
        self.raises(BadPlaces, widest, Column((0, 0)), (0,))

    def test_values(self):
        for item in NOT_INTEGERS + (-1, 4, 12, 10 ** 30, (), []):
            self.raises(BadValue, below_bounds, self.column, (0, 2), item)
            self.raises(BadValue, below_bounds, self.column, (), item)


class Newness(Case):
    def test_answers_are_new(self):
        column = Column((2, 0, 4, 1))
        self.assertIsNot(keep_ranks(column, 1), keep_ranks(column, 1))
        self.assertTrue(keep_ranks(column, 1) == keep_ranks(column, 1))
        self.assertEqual(column.counts, (2, 0, 4, 1))

    def test_arguments_are_not_kept(self):
        kept, far = [1, 4], [0]
        found = Marks(kept, far)
        kept.append(6)
        far.clear()
        self.assertEqual((found.kept, found.far, kept, far), ((1, 4), (0,), [1, 4, 6], []))

    def test_equality(self):
        found = Marks((1, 4), (0, 3))
        self.assertTrue(found == Marks([1, 4], [0, 3]))
        self.assertFalse(found != Marks([1, 4], [0, 3]))
        self.assert_alone(found, Marks((1, 4), (0, 2)), Marks((1, 3), (0, 3)), Marks((0, 3), (1, 4)),
                          ((1, 4), (0, 3)), None)


if __name__ == "__main__":
    unittest.main()
