"""Sums of values: points 1 and 24, the section bucketsums/means.py."""
import unittest
from itertools import combinations_with_replacement, permutations, product

from bucketsums import bounds
from bucketsums.errors import BadNumber, BadSum, BadValue
from bucketsums.means import Ends, at_least, rank_values, reach_both
from tests.checking import Case
from tests.plain import NOT_INTEGERS

# Numbers of rows and of values, for which all sorted rows are listed.
SIZES = [(rows, width) for rows in range(1, 6) for width in range(1, 6)] + [
    (1, 12), (2, 12), (3, 12), (4, 9), (20, 1), (20, 2), (20, 3), (9, 4), (7, 5)]


def by_sum(rows, width):
    """All sorted rows, by the sums of their values."""
    found = {}
    for values in combinations_with_replacement(range(width), rows):
        found.setdefault(sum(values), []).append(values)
    return found


def many_from(values, value):
    return sum(1 for one in values if one >= value)


class Answers(Case):
    def test_by_listing_all_sorted_rows(self):
        for rows, width in SIZES:
            for total, listed in by_sum(rows, width).items():
                for value in range(1, width):
                    numbers = {many_from(values, value) for values in listed}
                    wanted = (min(numbers), max(numbers))
                    self.assertEqual(numbers, set(range(wanted[0], wanted[1] + 1)))
                    found = at_least(rows, width, total, value)
                    self.assertEqual((found, type(found)), (wanted, tuple))
                    both = reach_both(rows, width, total, value)
                    self.assertEqual((type(both.least), type(both.greatest)), (tuple, tuple))
                    self.assertIn(tuple(sorted(both.least)), listed)
                    self.assertIn(tuple(sorted(both.greatest)), listed)
                    self.assertEqual((many_from(both.least, value), many_from(both.greatest, value)), wanted)
                    self.is_shown(True, both, rows, width, total, value)

    def test_ranks_by_listing_all_sorted_rows(self):
        for rows, width in SIZES:
            for total, listed in by_sum(rows, width).items():
                for rank in range(rows):
                    values = {late[rank] for late in listed}
                    wanted = (min(values), max(values))
                    self.assertEqual(values, set(range(wanted[0], wanted[1] + 1)))
                    found = rank_values(rows, width, total, rank)
                    self.assertEqual((found, type(found)), (wanted, tuple))

    def test_many_rows_and_values(self):
        # For each number of rows from a value on, all sums between the least and the greatest one are possible.
        for rows, width in ((20, 12), (20, 11), (19, 12), (13, 7)):
            for total in range(rows * (width - 1) + 1):
                for value in (1, 2, width // 2, width - 1):
                    numbers = [many for many in range(rows + 1)
                               if many * value <= total <= many * (width - 1) + (rows - many) * (value - 1)]
                    self.assertEqual(at_least(rows, width, total, value), (numbers[0], numbers[-1]))
                    self.is_shown(True, reach_both(rows, width, total, value), rows, width, total, value)
                for rank in (0, 1, rows // 2, rows - 1):
                    values = [value for value in range(width) if value * (rows - rank) <= total
                              <= value * (rank + 1) + (rows - rank - 1) * (width - 1)]
                    self.assertEqual(rank_values(rows, width, total, rank), (values[0], values[-1]))

    def test_edges(self):
        self.assertEqual(rank_values(1, 1, 0, 0), (0, 0))
        self.assertEqual([rank_values(20, 1, 0, rank) for rank in (0, 19)], [(0, 0), (0, 0)])
        self.assertEqual([at_least(1, 12, total, 11) for total in (0, 10, 11)], [(0, 0), (0, 0), (1, 1)])
        self.assertEqual([at_least(20, 12, total, 11) for total in (0, 10, 11, 219, 220)],
                         [(0, 0), (0, 0), (0, 1), (19, 19), (20, 20)])
        self.assertEqual([at_least(20, 12, total, 1) for total in (0, 1, 20, 220)], [(0, 0), (1, 1), (2, 20), (20, 20)])
        self.assertEqual([rank_values(20, 12, 0, 19), rank_values(20, 12, 220, 0)], [(0, 0), (11, 11)])
        self.assertEqual([rank_values(20, 12, 11, 19), rank_values(20, 12, 209, 0)], [(1, 11), (0, 10)])
        self.assertEqual(reach_both(1, 12, 7, 7), Ends((7,), (7,)))


class Certificates(Case):
    def test_all_rows_in_every_order(self):
        shown = [0, 0]
        for rows, width, total, value in ((3, 4, 4, 2), (3, 4, 7, 3), (2, 4, 3, 1), (4, 3, 4, 2), (1, 4, 2, 2),
                                          (3, 3, 0, 1), (3, 3, 6, 2), (3, 4, 4, 1)):
            best = reach_both(rows, width, total, value)
            for values in product(range(-1, width + 1), repeat=rows):
                fits = sum(values) == total and min(values) >= 0 and max(values) < width
                many = many_from(values, value)
                least = fits and many == many_from(best.least, value)
                greatest = fits and many == many_from(best.greatest, value)
                self.is_shown(least, Ends(list(values), best.greatest), rows, width, total, value)
                self.is_shown(greatest, Ends(best.least, list(values)), rows, width, total, value)
                shown[least] += 1
        self.assertGreater(min(shown), 20)
        for values in permutations((4, 2, 2, 0)):
            self.is_shown(True, Ends((2, 2, 2, 2), (4, 4, 0, 0)), 4, 5, 8, 3)
            self.is_shown(False, Ends(values, (4, 4, 0, 0)), 4, 5, 8, 3)

    def test_changed(self):
        self.is_shown(True, Ends((2, 2, 2, 2), (4, 0, 4, 0)), 4, 5, 8, 3)
        for values in ((2, 2, 2, 3), (2, 2, 2), (2, 2, 2, 2, 0), (2, 2, 2, 1, 1), (3, 2, 2, 1), (4, 0, 4, 0), (),
                       (2, 2, 2, "2"), (2, 2, 2, None), (2, 2, 2, 1), (8,), (5, 1, 1, 1), (2, 2, 5, -1), (2, 2, (2,), 2)):
            self.is_shown(False, Ends(values, (4, 0, 4, 0)), 4, 5, 8, 3)
        for values in ((4, 0, 4, 1), (4, 4), (4, 0, 4), (4, 0, 4, 0, 0), (2, 2, 2, 2), (4, 2, 2, 0), (), (5, 3, 0, 0),
                       (4, 0, 4, False), (4, "0", 4, 0), (4, None, 4, 0), (4, 5, -1, 0), (8, 0, 0, 0)):
            self.is_shown(False, Ends((2, 2, 2, 2), values), 4, 5, 8, 3)
        self.is_shown(True, Ends((1, 1), (0, 2)), 2, 3, 2, 2)
        self.is_shown(False, Ends((True, 1), (0, 2)), 2, 3, 2, 2)
        self.is_shown(False, Ends((1, 1), (False, 2)), 2, 3, 2, 2)

    def test_another_question(self):
        found = Ends((2, 2, 2, 2), (4, 0, 4, 0))
        for question in ((4, 5, 9, 3), (4, 5, 7, 3), (5, 5, 8, 3), (3, 5, 8, 3), (4, 5, 8, 2), (4, 4, 8, 3), (4, 6, 8, 2)):
            self.is_shown(False, found, *question)
        self.is_shown(True, found, 4, 6, 8, 3)
        self.is_shown(True, found, 4, 5, 8, 4)

    def test_current_attributes(self):
        found = reach_both(4, 5, 8, 3)
        for name in ("least", "greatest"):
            right = getattr(found, name)
            for item in (list(right), None, 3, "2222", {2: 2}, right[:3], right + (0,), [right]):
                setattr(found, name, item)
                self.is_shown(False, found, 4, 5, 8, 3)
            setattr(found, name, right)
            self.is_shown(True, found, 4, 5, 8, 3)


class Wrong(Case):
    def setUp(self):
        self.calls = (at_least, reach_both, Ends((), ()).shows, rank_values)

    def test_rows(self):
        for item in NOT_INTEGERS + (0, -1, 21, 10 ** 30, (), []):
            for call in self.calls:
                self.all_raise(BadNumber, call, [(item, 5, 8, 1), (item, 5, 8, None), (item, None, None, None),
                                                 (item, 5, -1, 99)])

    def test_widths(self):
        for item in NOT_INTEGERS + (0, -1, 13, 10 ** 30, (), []):
            for call in self.calls:
                self.all_raise(BadNumber, call, [(4, item, 8, 1), (4, item, None, 1), (4, item, -1, None)])

    def test_sums(self):
        for item in NOT_INTEGERS + (-1, 17, 10 ** 30, (), []):
            for call in self.calls:
                self.all_raise(BadSum, call, [(4, 5, item, 1), (4, 5, item, None), (4, 5, item, 99)])
        for call in self.calls:
            self.all_raise(BadSum, call, [(20, 1, 1, 0), (20, 12, 221, 1), (1, 12, 12, 1)])

    def test_values(self):
        for item in NOT_INTEGERS + (0, -1, 5, 10 ** 30, (), []):
            for call in self.calls[:3]:
                self.raises(BadValue, call, 4, 5, 8, item)
        # With one value there is none from 1 on.
        for item in (0, 1, -1, True, None):
            for call in self.calls[:3]:
                self.raises(BadValue, call, 4, 1, 0, item)

    def test_ranks(self):
        for item in NOT_INTEGERS + (-1, 4, 20, 10 ** 30, (), []):
            self.raises(BadNumber, rank_values, 4, 5, 8, item)
        self.raises(BadNumber, rank_values, 1, 1, 0, 1)


class Newness(Case):
    def test_answers_are_new(self):
        first = reach_both(4, 5, 8, 3)
        self.assertIsNot(reach_both(4, 5, 8, 3), first)
        self.assertTrue(reach_both(4, 5, 8, 3) == first)

    def test_arguments_are_not_kept(self):
        least, greatest = [2, 2], [4, 0]
        found = Ends(least, greatest)
        least.append(1)
        greatest.clear()
        self.assertEqual((found.least, found.greatest, least, greatest), ((2, 2), (4, 0), [2, 2, 1], []))

    def test_equality(self):
        found = Ends((2, 2), (4, 0))
        self.assertTrue(found == Ends([2, 2], [4, 0]))
        self.assertFalse(found != Ends([2, 2], [4, 0]))
        self.assert_alone(found, Ends((2, 2), (0, 4)), Ends((4, 0), (4, 0)), bounds.Ends((2, 2), (4, 0)),
                          ((2, 2), (4, 0)), None)


if __name__ == "__main__":
    unittest.main()
