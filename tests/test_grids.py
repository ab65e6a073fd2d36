"""Grids: points 1 and 10, the section bucketsums/grids.py."""
import random
import unittest
from itertools import product

from bucketsums.columns import Column
from bucketsums.errors import BadIndex, BadPlaces, BadTotals
from bucketsums.grids import (Bits, Blocked, BoxEnds, box_ends, count_grids, nth_grid, reach_box, zero_one)
from tests.checking import Case
from tests.plain import NOT_INTEGERS, STRANGE, all_subsets

# Nothing of this is totals of two lines with the sum 3.
NOT_TOTALS = STRANGE + (
    [2, 1], [1, 2], (), (1,), (2, 2), (1, 1, 2), (3, 0, 0, 0, 0), (0, 0, 0, 0, 3), (-1, 4), (4, -1),
    (True, 2), (2, True), (3, False), (2, "1"), (None, 3), ((2, 1),), ("21",), (2, (1,)), (2, [1]), (13, -10),
)

# Nothing of this is some of two lines.
NOT_SOME = STRANGE + (
    [], [0], [0, 1], (2,), (0, 2), (-1,), (-1, 0), (1, 0), (0, 0), (1, 1), (0, 1, 2), (True,), (False,), (0, True),
    (False, 1), ("0",), (None,), ((0,),), (0, (1,)), ([0],),
)


def lines_with(total, many):
    """All lines with a total, one by one."""
    return [line for line in product(range(total + 1), repeat=many) if sum(line) == total]


def listed(rows, columns):
    """All grids with the totals, in the order of tuples."""
    found = []
    for grid in product(*[lines_with(total, len(columns)) for total in rows]):
        if all(sum(row[at] for row in grid) == total for at, total in enumerate(columns)):
            found.append(grid)
    return sorted(found)


def some_totals():
    """Pairs of totals with few grids, the edges among them."""
    found = [((0,), (0,)), ((9,), (9,)), ((4,), (1, 0, 3)), ((1, 0, 3), (4,)), ((0, 0), (0, 0, 0)), ((2, 1), (1, 2)),
             ((9, 0), (0, 9)), ((1, 1, 1, 1), (1, 1, 1, 1)), ((2, 2, 1, 0), (1, 1, 1, 2)), ((2, 0), (2, 0)),
             ((1, 1, 1, 1), (4,)), ((3, 0, 0, 0), (0, 3, 0, 0)), ((3, 3), (2, 2, 2)), ((2, 2, 2), (3, 3, 0)),
             ((4, 1, 1), (2, 2, 2)), ((9, 9), (9, 9)), ((0, 2, 0, 2), (1, 1, 1, 1))]
    source = random.Random(10)
    while len(found) < 60:
        rows = tuple(source.randint(0, 3) for _ in range(source.randint(1, 4)))
        columns = tuple(source.randint(0, 3) for _ in range(source.randint(1, 4)))
        if sum(rows) == sum(columns) and sum(rows) < 6:
            found.append((rows, columns))
    return found


LISTED = [(rows, columns, listed(rows, columns)) for rows, columns in some_totals()]


def box_sum(grid, some, others):
    """The sum of the cells of a box, cell by cell."""
    return sum(grid[row][column] for row in some for column in others)


def some_boxes(rows, columns):
    """All boxes of small grids, some of the others; the empty and the whole one are among them."""
    boxes = list(product(all_subsets(len(rows)), all_subsets(len(columns))))
    return boxes if len(boxes) < 65 else boxes[::7] + [boxes[-1]]


def blocks(some, rows, columns):
    """Whether rows block, as the document says it."""
    return sum(rows[at] for at in some) > sum(min(total, len(some)) for total in columns)


class Answers(Case):
    def test_each_grid_by_its_index(self):
        for rows, columns, grids in LISTED:
            self.assertEqual(count_grids(rows, columns), len(grids))
            self.assertEqual([nth_grid(rows, columns, at) for at in range(len(grids))], grids)
            self.assertEqual({type(row) for row in nth_grid(rows, columns, 0)}, {tuple})
            for number in (-1, len(grids), len(grids) + 1, 10 ** 40, -10 ** 40):
                self.raises(BadIndex, nth_grid, rows, columns, number)

    def test_boxes_by_listing_all_grids(self):
        for rows, columns, grids in LISTED:
            for some, others in some_boxes(rows, columns):
                sums = [box_sum(grid, some, others) for grid in grids]
                ends = (min(sums), max(sums))
                self.assertEqual(box_ends(rows, columns, some, others), ends)
                found = reach_box(rows, columns, some, others)
                self.assertIn(found.least, grids)
                self.assertIn(found.greatest, grids)
                reached = (box_sum(found.least, some, others), box_sum(found.greatest, some, others))
                self.assertEqual(reached, ends)
                self.is_shown(True, found, rows, columns, some, others)

    def test_zeros_and_ones_by_listing_all_grids(self):
        kinds = []
        for rows, columns, grids in LISTED:
            right = [grid for grid in grids if all(cell < 2 for row in grid for cell in row)]
            found = zero_one(rows, columns)
            kinds.append(type(found))
            if right:
                self.assertIs(type(found), Bits)
                self.assertIn(found.grid, right)
            else:
                self.assertIs(type(found), Blocked)
                self.assertIn(found.some, all_subsets(len(rows)))
                self.assertTrue(blocks(found.some, rows, columns))
            self.is_shown(True, found, rows, columns)
        self.assertGreater(kinds.count(Bits), 15)
        self.assertGreater(kinds.count(Blocked), 15)

    def test_zeros_and_ones_for_all_small_totals(self):
        possible = {(tuple(sum(row) for row in grid), tuple(sum(column) for column in zip(*grid)))
                    for grid in product(product((0, 1), repeat=3), repeat=3)}
        for rows in product(range(5), repeat=3):
            for columns in product(range(5), repeat=3):
                if sum(rows) == sum(columns):
                    found = zero_one(rows, columns)
                    self.assertIs(type(found), Bits if (rows, columns) in possible else Blocked)
                    self.is_shown(True, found, rows, columns)

    def test_four_by_four(self):
        nines = (9, 9, 9, 9)
        # As many as there are squares of four by four with the sum 9 of all lines.
        self.assertEqual(count_grids(nines, nines), 2309384)
        self.assertEqual(nth_grid(nines, nines, 0), ((0, 0, 0, 9), (0, 0, 9, 0), (0, 9, 0, 0), (9, 0, 0, 0)))
        self.assertEqual(nth_grid(nines, nines, 2309383), ((9, 0, 0, 0), (0, 9, 0, 0), (0, 0, 9, 0), (0, 0, 0, 9)))
        self.raises(BadIndex, nth_grid, nines, nines, 2309384)
        self.assertEqual(box_ends(nines, nines, (0, 1, 2), (0, 3)), (9, 18))
        self.assertEqual(box_ends(nines, nines, (), (0, 1)), (0, 0))
        self.assertEqual(box_ends(nines, nines, (0, 1, 2, 3), (0, 1, 2, 3)), (36, 36))
        self.assertEqual(zero_one((4, 4, 4, 4), (4, 4, 4, 4)).grid, ((1, 1, 1, 1),) * 4)
        self.assertIs(type(zero_one(nines, nines)), Blocked)
        rows, columns = (9, 7, 4, 2), (8, 8, 3, 3)
        many = count_grids(rows, columns)
        grids = [nth_grid(rows, columns, at) for at in list(range(40)) + list(range(40, many, many // 40))]
        self.assertEqual(grids, sorted(set(grids)))
        for grid in grids:
            self.assertEqual([sum(row) for row in grid], list(rows))
            self.assertEqual([sum(column) for column in zip(*grid)], list(columns))

    def test_many_lines(self):
        source = random.Random(4)
        for _ in range(60):
            grid = [[source.randint(0, 2) for _ in range(4)] for _ in range(4)]
            rows, columns = tuple(map(sum, grid)), tuple(map(sum, zip(*grid)))
            some, others = source.choice(all_subsets(4)), source.choice(all_subsets(4))
            found = reach_box(rows, columns, some, others)
            ends = box_ends(rows, columns, some, others)
            for end, wanted in ((found.least, ends[0]), (found.greatest, ends[1])):
                self.assertEqual((tuple(map(sum, end)), tuple(map(sum, zip(*end)))), (rows, columns))
                self.assertEqual(box_sum(end, some, others), wanted)
                self.assertTrue(all(cell >= 0 for row in end for cell in row))
            self.assertLessEqual(ends[0], box_sum(grid, some, others))
            self.assertGreaterEqual(ends[1], box_sum(grid, some, others))
            self.is_shown(True, zero_one(rows, columns), rows, columns)


class Certificates(Case):
    def test_every_right_box_and_no_other(self):
        for rows, columns, grids in LISTED[1::4]:
            for some, others in some_boxes(rows, columns)[::3]:
                ends = box_ends(rows, columns, some, others)
                best = reach_box(rows, columns, some, others)
                asked = (rows, columns, some, others)
                for grid in grids[:40]:
                    found = box_sum(grid, some, others)
                    self.is_shown(found == ends[0], BoxEnds(list(map(list, grid)), best.greatest), *asked)
                    self.is_shown(found == ends[1], BoxEnds(best.least, grid), *asked)

    def test_changed_boxes(self):
        rows, columns = (2, 1), (1, 2)
        least, greatest = ((0, 2), (1, 0)), ((1, 1), (0, 1))
        asked = (rows, columns, (0,), (0,))
        self.is_shown(True, BoxEnds(least, greatest), *asked)
        self.is_shown(False, BoxEnds(greatest, least), *asked)
        self.is_shown(True, BoxEnds(greatest, greatest), rows, columns, (0, 1), (1,))
        wrong = ((), ((0, 2),), ((0, 2), (1, 0), (0, 0)), ((0, 2), (1,)), ((0, 2, 0), (1, 0, 0)), ((0, 2), (0, 1)),
                 ((1, 0), (0, 2)), ((0, 1), (2, 0)), ((-1, 3), (2, -1)), ((2, 0), (-1, 2)), ((0, 2), (True, 0)),
                 ((False, 2), (1, 0)), ((0, 2), (1, "0")), ((0, None), (1, 0)), ((0, 2), (1, 0, 0)), ((0, 2), ()))
        for grid in wrong:
            self.is_shown(False, BoxEnds(grid, greatest), *asked)
            self.is_shown(False, BoxEnds(least, grid), *asked)
        self.is_shown(False, BoxEnds(((1, 1), (False, 1)), greatest), rows, columns, (0, 1), (1,))
        # The box is a whole column, so only the sign of the cells is wrong.
        self.is_shown(True, BoxEnds(least, greatest), rows, columns, (0, 1), (0,))
        self.is_shown(False, BoxEnds(((-1, 3), (2, -1)), greatest), rows, columns, (0, 1), (0,))
        self.is_shown(False, BoxEnds(least, ((2, 0), (-1, 2))), rows, columns, (0, 1), (0,))

    def test_every_right_grid_and_no_other(self):
        for rows, columns, grids in LISTED:
            for grid in grids[::1 + len(grids) // 60]:
                right = all(cell < 2 for row in grid for cell in row)
                self.is_shown(right, Bits([list(row) for row in grid]), rows, columns)

    def test_every_right_rows_and_no_others(self):
        for rows, columns, _ in LISTED:
            for some in all_subsets(len(rows)):
                self.is_shown(blocks(some, rows, columns), Blocked(list(some)), rows, columns)

    def test_changed_bits(self):
        rows, columns = (2, 1, 0), (1, 2)
        self.is_shown(True, Bits(((1, 1), (0, 1), (0, 0))), rows, columns)
        for grid in ((), ((1, 1), (0, 1)), ((1, 1), (1, 0), (0, 0)), ((0, 2), (1, 0), (0, 0)), ((1, 1), (0, 1), (0,)),
                     ((1, 1, 0), (0, 1, 0), (0, 0, 0)), ((1, 1), (0, True), (0, 0)), ((1, 1), (False, 1), (0, 0)),
                     ((1, 1), (0, 1), (0, None)), ((1, "1"), (0, 1), (0, 0)), ((0, 1), (1, 1), (0, 0)),
                     ((1, 1), (0, 1), (1, -1)), ((1, 1), (0, 1), (0, 0), (0, 0))):
            self.is_shown(False, Bits(grid), rows, columns)
        self.is_shown(False, Bits(((1, 1), (0, 1), (0, 0))), (1, 2, 0), columns)

    def test_changed_rows(self):
        rows, columns = (3, 3, 0), (2, 4)
        for some in ((0,), (1,), (0, 1)):
            self.is_shown(True, Blocked(some), rows, columns)
        for some in ((), (2,), (1, 0), (0, 0), (0, 1, 2), (0, 2, 1), (0, 3), (-1,), (True,), (False,), (0, True),
                     ("0",), (None,), ((0,),)):
            self.is_shown(blocks(some, rows, columns) if some == (0, 1, 2) else False, Blocked(some), rows, columns)

    def test_current_attributes(self):
        rows, columns, box = (2, 1), (1, 2), ((0,), (0,))
        found = reach_box(rows, columns, *box)
        for name in ("least", "greatest"):
            right = getattr(found, name)
            for grid in (list(right), [list(row) for row in right], (list(right[0]), right[1]), None, 3, "12",
                         right[:1]):
                setattr(found, name, grid)
                self.is_shown(False, found, rows, columns, *box)
            setattr(found, name, right)
            self.is_shown(True, found, rows, columns, *box)
        found = zero_one(rows, columns)
        right = found.grid
        for grid in (list(right), (list(right[0]), right[1]), None, 1, right + ((0, 0),)):
            found.grid = grid
            self.is_shown(False, found, rows, columns)
        found = zero_one((2, 0), (2, 0))
        for some in ([0], None, 0, "0", (1,), (True,)):
            found.some = some
            self.is_shown(False, found, (2, 0), (2, 0))
        found.some = (0,)
        self.is_shown(True, found, (2, 0), (2, 0))


class Wrong(Case):
    def setUp(self):
        self.boxes = (box_ends, reach_box, BoxEnds((), ()).shows)
        self.others = (count_grids, zero_one, Bits(()).shows, Blocked(()).shows)

    def test_totals(self):
        for item in NOT_TOTALS:
            for call in self.others:
                self.all_raise(BadTotals, call, [(item, (2, 1)), ((2, 1), item)])
            for call in self.boxes:
                self.all_raise(BadTotals, call, [(item, (2, 1), (0,), (0,)), ((2, 1), item, (0,), (0,)),
                                                 (item, (2, 1), None, None), ((2, 1), item, (5,), [])])
            self.all_raise(BadTotals, nth_grid, [(item, (2, 1), 0), ((2, 1), item, 0), (item, (2, 1), None)])

    def test_as_many_lines_too_many_or_too_few(self):
        for item in ((), (1,) * 5, [], [1], None):
            for call in self.others:
                self.raises(BadTotals, call, item, item)
            for call in self.boxes:
                self.raises(BadTotals, call, item, item, (), ())
            self.raises(BadTotals, nth_grid, item, item, 0)

    def test_totals_with_wrong_items(self):
        for item in NOT_INTEGERS + (10, -1, 10 ** 30):
            for call in self.others:
                self.all_raise(BadTotals, call, [((item,), (1,)), ((1,), (item,)), ((0, item), (1,)),
                                                 ((item,), (item,))])

    def test_boxes(self):
        for item in NOT_SOME:
            for call in self.boxes:
                self.all_raise(BadPlaces, call, [((2, 1), (1, 2), item, (0,)), ((2, 1), (1, 2), (0,), item),
                                                 ((2, 1), (1, 2), item, item)])
        for call in self.boxes:
            self.raises(BadPlaces, call, (3,), (1, 2), (1,), (1,))
            self.raises(BadPlaces, call, (1, 2), (3,), (1,), (1,))

    def test_indices(self):
        for item in NOT_INTEGERS + (-1, 2, 3, (), []):
            self.raises(BadIndex, nth_grid, (2, 1), (1, 2), item)

    def test_edges_are_right(self):
        for call in self.boxes[:2]:
            call((2, 1), (1, 2), (), ())
            call((0,) * 4, (0,), (0, 1, 2, 3), (0,))
        self.assertEqual(count_grids((9,), (9,)), 1)


class Newness(Case):
    def test_answers_are_new(self):
        rows, columns = (2, 1), (1, 2)
        for call, args in ((reach_box, (rows, columns, (0,), (1,))), (zero_one, (rows, columns)),
                           (zero_one, ((2, 0), (2, 0)))):
            self.assertIsNot(call(*args), call(*args))
            self.assertTrue(call(*args) == call(*args))
        self.assertIs(type(box_ends(rows, columns, (0,), (1,))), tuple)

    def test_arguments_are_not_kept(self):
        grid, other, some = [[0, 2], [1, 0]], [[1, 1], [0, 1]], [0]
        ends, bits, blocked = BoxEnds(grid, other), Bits(grid), Blocked(some)
        grid[0].append(3)
        other.clear()
        some.append(1)
        self.assertEqual((ends.least, ends.greatest), (((0, 2), (1, 0)), ((1, 1), (0, 1))))
        self.assertEqual((bits.grid, blocked.some), (((0, 2), (1, 0)), (0,)))
        self.assertEqual((grid, other, some), ([[0, 2, 3], [1, 0]], [], [0, 1]))

    def test_equality(self):
        one, other = ((0, 2), (1, 0)), ((1, 1), (0, 1))
        self.assertTrue(BoxEnds(one, other) == BoxEnds([[0, 2], [1, 0]], list(other)))
        self.assertFalse(BoxEnds(one, other) != BoxEnds(one, other))
        self.assert_alone(BoxEnds(one, other), BoxEnds(other, other), BoxEnds(one, one), BoxEnds(other, one),
                          (one, other), Bits(one), None)
        self.assertTrue(Bits(one) == Bits([[0, 2], [1, 0]]))
        self.assert_alone(Bits(one), Bits(other), Blocked(one), one, None)
        self.assertTrue(Blocked((0, 1)) == Blocked([0, 1]))
        self.assert_alone(Blocked((0, 1)), Blocked((0,)), Bits(((0, 1),)), (0, 1), Column((0, 1)), None)


if __name__ == "__main__":
    unittest.main()
