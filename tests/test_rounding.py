"""Rounding: points 1 and 22, the section bucketsums/rounding.py."""
import random
import unittest
from itertools import product

from bucketsums.errors import BadNumber, BadTotals
from bucketsums.grids import Bits
from bucketsums.rounding import Rounded, count_roundings, round_grid
from tests.checking import Case
from tests.plain import NOT_INTEGERS
from tests.test_hiding import NOT_GRIDS

SQUARE = ((1, 2), (3, 0))


def sums_of(grid):
    """The totals of the rows, of the columns, and of all cells."""
    return [sum(row) for row in grid] + [sum(column) for column in zip(*grid)] + [sum(map(sum, grid))]


def is_rounded(number, late, base):
    """Whether a number is rounded to another one."""
    return late % base == 0 and abs(late - number) < base


def near(number, base):
    """All numbers to which a number can be rounded."""
    return [late for late in range(number - base, number + base + 1) if is_rounded(number, late, base)]


def candidates(grid, base):
    """All grids whose cells are rounded, whatever their totals are."""
    width = len(grid[0])
    for cells in product(*[near(cell, base) for row in grid for cell in row]):
        yield tuple(cells[at:at + width] for at in range(0, len(cells), width))


def is_right(grid, late, base):
    """Whether a grid is as the document wants it; its cells are rounded already."""
    return all(is_rounded(one, other, base) for one, other in zip(sums_of(grid), sums_of(late)))


def some_grids(many, most_lines, seed):
    """Grids of counts, always the same ones."""
    source = random.Random(seed)
    found = []
    for _ in range(many):
        height, width, most = source.randint(1, most_lines), source.randint(1, most_lines), source.choice((2, 5, 9))
        found.append(tuple(tuple(source.randint(0, most) for _ in range(width)) for _ in range(height)))
    return found


SMALL = some_grids(30, 3, 22) + [
    SQUARE, ((0,),), ((9,),), ((5,),), ((1, 1, 1, 1),), ((1,), (1,), (1,), (1,)), ((9, 9), (9, 9)), ((2, 4),),
    ((0, 0), (0, 0)), ((1, 0), (0, 1)), ((3, 6), (9, 0)), ((1, 9), (9, 1)),
]


class Answers(Case):
    def test_by_listing_all_grids(self):
        seen = set()
        for grid in SMALL:
            for base in (2, 3, 4, 5):
                right = [late for late in candidates(grid, base) if is_right(grid, late, base)]
                self.assertGreater(len(right), 0)
                self.assertEqual(count_roundings(grid, base), len(right))
                found = round_grid(grid, base)
                self.assertIn(found.grid, right)
                self.assertEqual({type(row) for row in found.grid} | {type(found.grid)}, {tuple})
                self.is_shown(True, found, grid, base)
                seen.add(min(len(right), 5))
        self.assertEqual(seen, {1, 2, 3, 4, 5})

    def test_there_always_is_one(self):
        for grid in some_grids(150, 4, 23) + [((9,) * 4,) * 4, ((1,) * 4,) * 4, ((0,) * 4,) * 4, ((3,) * 4,) * 4]:
            for base in (2, 3, 4, 5):
                found = round_grid(grid, base)
                for row, late in zip(grid, found.grid):
                    self.assertTrue(all(is_rounded(cell, other, base) for cell, other in zip(row, late)))
                    self.assertEqual(len(row), len(late))
                self.assertEqual(len(grid), len(found.grid))
                self.assertTrue(is_right(grid, found.grid, base))
                self.assertGreater(count_roundings(grid, base), 0)
                self.is_shown(True, found, grid, base)

    def test_all_grids_of_two_by_two(self):
        for cells in product(range(4), repeat=4):
            grid = (cells[:2], cells[2:])
            for base in (2, 3):
                right = [late for late in candidates(grid, base) if is_right(grid, late, base)]
                self.assertEqual(count_roundings(grid, base), len(right))
                self.assertIn(round_grid(grid, base).grid, right)

    def test_four_by_four(self):
        grid = ((1, 3, 5, 7), (9, 1, 3, 5), (7, 9, 1, 3), (5, 7, 9, 1))
        for late_grid, base in ((grid, 2), (((1, 2, 0, 4), (5, 3, 2, 1), (0, 4, 4, 2), (3, 3, 1, 2)), 5)):
            right = sum(1 for late in candidates(late_grid, base) if is_right(late_grid, late, base))
            self.assertEqual(count_roundings(late_grid, base), right)
            self.assertGreater(right, 50)

    def test_multiples_stay(self):
        for base in (2, 3, 4, 5):
            for grid in (((0,),), ((base, 0), (0, base)), ((base,) * 4,) * 4, ((0,) * 4,) * 4, ((0, base, base),)):
                self.assertEqual(count_roundings(grid, base), 1)
                self.assertEqual(round_grid(grid, base).grid, grid)
        self.assertEqual(round_grid(((2, 4), (6, 8)), 2).grid, ((2, 4), (6, 8)))
        self.assertEqual(count_roundings(((2, 4), (6, 8)), 3), len(
            [late for late in candidates(((2, 4), (6, 8)), 3) if is_right(((2, 4), (6, 8)), late, 3)]))

    def test_edges(self):
        self.assertEqual([count_roundings(((9,),), base) for base in (2, 3, 4, 5)], [2, 1, 2, 2])
        self.assertIn(round_grid(((9,),), 2).grid, (((8,),), ((10,),)))
        self.assertIn(round_grid(((1,),), 5).grid, (((0,),), ((5,),)))
        # Two of the four cells grow, as the total 4 stays.
        self.assertEqual(count_roundings(((1, 1, 1, 1),), 2), 6)
        self.assertEqual(count_roundings(((1,), (1,), (1,), (1,)), 2), 6)
        self.assertEqual(count_roundings(((1,), (1,), (1,), (1,)), 5), 5)


class Certificates(Case):
    def test_all_grids_with_rounded_cells(self):
        shown = [0, 0]
        for grid in SMALL:
            if len(grid) * len(grid[0]) < 7:
                for base in (2, 3, 5):
                    for late in candidates(grid, base):
                        right = is_right(grid, late, base)
                        shown[right] += 1
                        self.is_shown(right, Rounded([list(row) for row in late]), grid, base)
        self.assertGreater(min(shown), 100)

    def test_all_small_grids(self):
        # Also those whose cells are no multiples, or too far away.
        for base in (2, 3):
            right = [late for late in candidates(SQUARE, base) if is_right(SQUARE, late, base)]
            for cells in product(range(7), repeat=4):
                late = (cells[:2], cells[2:])
                self.is_shown(late in right, Rounded(late), SQUARE, base)

    def test_changed(self):
        self.is_shown(True, Rounded(((0, 2), (4, 0))), SQUARE, 2)
        self.is_shown(True, Rounded(((2, 2), (2, 0))), SQUARE, 2)
        for late in (((2, 2), (4, 0)), ((2, 0), (2, 2)), ((0, 2), (2, 0)), ((1, 2), (3, 0)), ((0, 2), (4, 0), (0, 0)),
                     ((0, 2),), ((0, 2, 0), (4, 0, 0)), ((0,), (4,)), ((0, 2, 4, 0),), ((0,), (2,), (4,), (0,)), (),
                     ((), ()), ((0, 2), (4,)), ((False, 2), (4, 0)), ((0, 2), (4, False)), ((0, "2"), (4, 0)),
                     ((0, None), (4, 0)), ((0, 2), (6, -2)), ((-2, 4), (6, -2)), ((0, 2), (4, 2)), ((0, 4), (4, 0)),
                     ((0, 2), ((4,), 0)), ((2, 2), (0, 0)), ((4, 0), (0, 2))):
            self.is_shown(False, Rounded(late), SQUARE, 2)
        # A cell rounded too far, where the totals would fit.
        self.is_shown(False, Rounded(((4, 0), (0, 4))), ((1, 3), (3, 1)), 2)
        self.is_shown(False, Rounded(((0, 4, 0),)), ((1, 1, 2),), 2)
        self.is_shown(True, Rounded(((0, 2, 2),)), ((1, 1, 2),), 2)
        # All rows and columns fit, the sum of all cells does not.
        self.is_shown(False, Rounded(((2, 0, 0), (0, 2, 0), (0, 0, 2))), ((1, 0, 0), (0, 1, 0), (0, 0, 1)), 2)
        self.is_shown(True, Rounded(((2, 0, 0), (0, 2, 0), (0, 0, 0))), ((1, 0, 0), (0, 1, 0), (0, 0, 1)), 2)

    def test_another_question(self):
        found = Rounded(((0, 2), (4, 0)))
        for base in (3, 4, 5):
            self.is_shown(False, found, SQUARE, base)
        self.is_shown(True, found, ((1, 2), (3, 1)), 2)
        self.is_shown(False, found, ((1, 2), (3, 2)), 2)
        self.is_shown(False, found, ((1, 2, 0), (3, 0, 0)), 2)
        self.is_shown(False, found, ((1, 2),), 2)
        self.is_shown(True, found, ((0, 2), (4, 0)), 2)

    def test_current_attributes(self):
        found = round_grid(SQUARE, 2)
        right = found.grid
        for item in (None, 3, "02", [list(row) for row in right], list(right), {0: right}, right[:1], (None, None),
                     (3, 4), tuple(list(row) for row in right)):
            found.grid = item
            self.is_shown(False, found, SQUARE, 2)
        found.grid = right
        self.is_shown(True, found, SQUARE, 2)


class Wrong(Case):
    def setUp(self):
        self.calls = (round_grid, count_roundings, Rounded(()).shows)

    def test_grids(self):
        for item in NOT_GRIDS:
            for call in self.calls:
                self.all_raise(BadTotals, call, [(item, 2), (item, None), (item, 6)])

    def test_bases(self):
        for item in NOT_INTEGERS + (1, 0, -1, -2, 6, 10 ** 30, (), []):
            for call in self.calls:
                self.all_raise(BadNumber, call, [(SQUARE, item), (((0,),), item)])


class Newness(Case):
    def test_answers_are_new(self):
        self.assertIsNot(round_grid(SQUARE, 2), round_grid(SQUARE, 2))
        self.assertTrue(round_grid(SQUARE, 2) == round_grid(SQUARE, 2))

    def test_arguments_are_not_kept(self):
        grid = [[0, 2], [4, 0]]
        found = Rounded(grid)
        grid[0][0] = 2
        grid.append([1, 1])
        self.assertEqual((found.grid, grid), (((0, 2), (4, 0)), [[2, 2], [4, 0], [1, 1]]))

    def test_equality(self):
        found = Rounded(((0, 2), (4, 0)))
        self.assertTrue(found == Rounded([[0, 2], [4, 0]]))
        self.assertFalse(found != Rounded([[0, 2], [4, 0]]))
        self.assert_alone(found, Rounded(((2, 2), (2, 0))), Bits(((0, 2), (4, 0))), ((0, 2), (4, 0)), None)


if __name__ == "__main__":
    unittest.main()
