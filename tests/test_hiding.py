"""Hidden cells: points 1 and 21, the section bucketsums/hiding.py."""
import random
import unittest
from itertools import combinations, product

from bucketsums.errors import BadPlaces, BadTotals, TooLarge
from bucketsums.hiding import Hidden, exposed, fewest_more, hidden_ends, is_exposed, reach_hidden
from bucketsums.rounding import Rounded
from tests.checking import Case
from tests.plain import NOT_INTEGERS, STRANGE, all_subsets

SQUARE = ((1, 2), (3, 0))
EVERY = ((0, 0), (0, 1), (1, 0), (1, 1))

# Nothing of this is a grid of counts.
NOT_GRIDS = STRANGE + (
    (), [], ((),), ((), ()), [[1]], [(1,)], ([1],), ((1, 2), [3, 4]), ((1, 2), (3,)), ((1,), (2, 3)), ((1, 2), ()),
    ((10,),), ((-1,),), ((1, 2), (3, -1)), ((1, 2), (3, 10)), ((10 ** 30,),), ((0,),) * 5, ((0,) * 5,),
    ((0,) * 5,) * 5, (1, 2), ((1, 2), 3), ((1, 2), None), ("12", "34"), (((1,),),), ((1, 2), "34"),
) + tuple(((1, item),) for item in NOT_INTEGERS) + tuple(((0,), (item,)) for item in NOT_INTEGERS)

# Nothing of this is an ascending tuple of cells of a grid of two rows and two columns.
NOT_CELLS = STRANGE + (
    [], [(0, 0)], ([0, 0],), ((0, 0), [0, 1]), ((0, 0), (0, 0)), ((0, 1), (0, 0)), ((1, 0), (0, 1)), ((0, 2),),
    ((2, 0),), ((-1, 0),), ((0, -1),), ((0,),), ((0, 0, 0),), (0, 0), ((0, 0), 1), ((0, 0), None), ("00",), ((),),
    ((0, 0), (0, 10 ** 30)), (((0,), 0),), EVERY[::-1], EVERY + ((1, 1),), EVERY + ((2, 0),),
) + tuple(((0, item),) for item in NOT_INTEGERS) + tuple(((item, 1),) for item in NOT_INTEGERS)

# Nothing of this is one of the cells (0, 1), (1, 0) and (1, 1).
NOT_A_CELL = STRANGE + (
    (0, 0), (), (0,), [0, 1], (0, 1, 0), (1, 2), (2, 1), (-1, 1), (1, -1), ((0, 1),), "01", (0, "1"), (None, 1),
    (False, True), (0, True), (False, 1), (True, True), (1, True), (1, False), (10 ** 30, 0),
)


def cells_of(grid):
    """All cells, ascending."""
    return tuple((row, column) for row in range(len(grid)) for column in range(len(grid[0])))


def totals(grid):
    """The totals of the rows and of the columns."""
    return [sum(row) for row in grid], [sum(column) for column in zip(*grid)]


def agreeing(grid, hidden):
    """All grids that agree with what is known: the hidden cells are filled one after the other."""
    rows, columns = totals(grid)
    for row, column in cells_of(grid):
        if (row, column) not in hidden:
            rows[row] -= grid[row][column]
            columns[column] -= grid[row][column]
    found = []

    def fill(late, at):
        if at == len(hidden):
            if not any(rows) and not any(columns):
                found.append(tuple(tuple(row) for row in late))
            return
        row, column = hidden[at]
        for count in range(min(rows[row], columns[column]) + 1):
            late[row][column] = count
            rows[row] -= count
            columns[column] -= count
            fill(late, at + 1)
            rows[row] += count
            columns[column] += count

    fill([list(row) for row in grid], 0)
    return found


def possible(grid, hidden, cell):
    """All possible counts of a cell, ascending."""
    return sorted({late[cell[0]][cell[1]] for late in agreeing(grid, hidden)})


def difference(grid, hidden, rows, columns):
    """The hidden cells in the rows less those in the columns."""
    found = 0
    for row, column in hidden:
        found += grid[row][column] * ((row in rows) - (column in columns))
    return found


def is_above(grid, hidden, cell, pair, greatest):
    """Whether a pair is as the document wants `above`."""
    rows, columns = pair
    if cell[0] not in rows or cell[1] in columns:
        return False
    if [one for one in hidden if one[0] not in rows and one[1] in columns]:
        return False
    return difference(grid, hidden, rows, columns) == greatest


def is_below(grid, hidden, cell, pair, least):
    """Whether a pair is as the document wants `below`, if the least count is not 0."""
    rows, columns = pair
    if cell[0] in rows or cell[1] not in columns:
        return False
    if [one for one in hidden if one != cell and one[0] not in rows and one[1] in columns]:
        return False
    return difference(grid, hidden, rows, columns) == -least


def all_pairs(grid):
    """All pairs of rows and of columns."""
    return list(product(all_subsets(len(grid)), all_subsets(len(grid[0]))))


def some_grids(many, most_rows, most_columns, most, seed):
    """Grids with hidden cells, always the same ones."""
    source = random.Random(seed)
    found = []
    for _ in range(many):
        height, width = source.randint(1, most_rows), source.randint(1, most_columns)
        grid = tuple(tuple(source.randint(0, most) for _ in range(width)) for _ in range(height))
        share = source.choice((0.3, 0.6, 0.8, 1))
        hidden = tuple(cell for cell in cells_of(grid) if source.random() < share)
        found.append((grid, hidden))
    return found


SMALL = some_grids(150, 3, 3, 2, 21) + some_grids(60, 2, 3, 4, 22) + some_grids(60, 2, 2, 9, 23) + [
    (SQUARE, EVERY), (SQUARE, ()), (((0,),), ((0, 0),)), (((9,),), ((0, 0),)), (((9,),), ()),
    (((1, 2, 3, 4),), ((0, 0), (0, 1), (0, 2), (0, 3))), (((1,), (2,), (3,), (0,)), ((0, 0), (1, 0), (2, 0), (3, 0))),
    (((0, 0), (0, 0)), EVERY), (((9, 9), (9, 9)), EVERY), (((1, 0), (0, 1)), EVERY), (((0, 9), (9, 0)), EVERY),
    (((9, 0), (0, 9)), EVERY), (((5, 9), (0, 0)), EVERY), (((9, 1), (1, 0)), EVERY),
]


class Answers(Case):
    def assert_right(self, grid, hidden, cell, counts):
        """All answers about a cell, by all its possible counts."""
        self.assertEqual(hidden_ends(grid, hidden, cell), (counts[0], counts[-1]))
        self.assertEqual(type(hidden_ends(grid, hidden, cell)), tuple)
        self.assertIs(is_exposed(grid, hidden, cell), len(counts) == 1)
        found = reach_hidden(grid, hidden, cell)
        self.assertTrue(is_above(grid, hidden, cell, found.above, counts[-1]))
        if counts[0] == 0:
            self.assertIsNone(found.below)
        else:
            self.assertTrue(is_below(grid, hidden, cell, found.below, counts[0]))
        for pair in [found.above] + ([] if found.below is None else [found.below]):
            self.assertIn(pair, all_pairs(grid))
        self.assertEqual({type(row) for row in found.least + found.greatest}, {tuple})
        self.assertEqual(found.least[cell[0]][cell[1]], counts[0])
        self.assertEqual(found.greatest[cell[0]][cell[1]], counts[-1])
        self.is_shown(True, found, grid, hidden, cell)
        return found

    def test_by_listing_all_grids(self):
        seen = set()
        for grid, hidden in SMALL:
            grids = agreeing(grid, hidden)
            follow = []
            for cell in hidden:
                counts = sorted({late[cell[0]][cell[1]] for late in grids})
                self.assertEqual(counts, list(range(counts[0], counts[-1] + 1)))
                found = self.assert_right(grid, hidden, cell, counts)
                self.assertIn(found.least, grids)
                self.assertIn(found.greatest, grids)
                if len(counts) == 1:
                    follow.append(cell)
                seen.add((counts[0] > 0, counts[-1] > 9, len(counts) == 1))
            self.assertEqual(exposed(grid, hidden), follow)
            self.assertEqual(type(exposed(grid, hidden)), list)
        # A count above 9 is never the only one, everything else happens.
        self.assertEqual(len(seen), 6)

    def test_large_grids_by_all_lines(self):
        # No count is greater than any difference of the kind that `above` has, and one reaches it.
        for grid, hidden in some_grids(25, 4, 4, 9, 24) + [(((9,) * 4,) * 4, cells_of(((9,) * 4,) * 4)),
                                                           (((0,) * 4,) * 4, cells_of(((9,) * 4,) * 4))]:
            rows, columns = totals(grid)
            for cell in hidden:
                sums = [(pair, difference(grid, hidden, pair[0], pair[1])) for pair in all_pairs(grid)]
                most = min(one for pair, one in sums if is_above(grid, hidden, cell, pair, one))
                least = max([0] + [-one for pair, one in sums if is_below(grid, hidden, cell, pair, -one)])
                found = reach_hidden(grid, hidden, cell)
                self.assertEqual(hidden_ends(grid, hidden, cell), (least, most))
                for late in (found.least, found.greatest):
                    self.assertEqual(totals(late), (rows, columns))
                    self.assertGreaterEqual(min(min(row) for row in late), 0)
                    for row, column in cells_of(grid):
                        if (row, column) not in hidden:
                            self.assertEqual(late[row][column], grid[row][column])
                self.is_shown(True, found, grid, hidden, cell)
                self.assertIs(is_exposed(grid, hidden, cell), least == most)
                self.assertIs(cell in exposed(grid, hidden), least == most)

    def test_edges(self):
        full = ((9,) * 4,) * 4
        self.assertEqual(hidden_ends(full, cells_of(full), (3, 3)), (0, 36))
        self.assertEqual(exposed(full, cells_of(full)), [])
        self.assertEqual(exposed(full, ()), [])
        self.assertEqual(hidden_ends(((7,),), ((0, 0),), (0, 0)), (7, 7))
        self.assertEqual(hidden_ends(((0,),), ((0, 0),), (0, 0)), (0, 0))
        self.assertIsNone(reach_hidden(((0,),), ((0, 0),), (0, 0)).below)
        self.assertEqual(reach_hidden(((7,),), ((0, 0),), (0, 0)).below, ((), (0,)))
        self.assertEqual(hidden_ends(((1, 2, 3, 9),), ((0, 1), (0, 3)), (0, 3)), (9, 9))
        self.assertEqual(exposed(((1, 2, 3, 9),), ((0, 1), (0, 3))), [(0, 1), (0, 3)])
        self.assertEqual(hidden_ends(SQUARE, EVERY, (0, 1)), (0, 2))
        self.assertEqual(hidden_ends(SQUARE, EVERY, (1, 0)), (1, 3))
        self.assertEqual(hidden_ends(((9, 0), (0, 9)), EVERY, (0, 0)), (0, 9))
        self.assertEqual(hidden_ends(((9, 5), (6, 0)), EVERY, (0, 0)), (9, 14))


class FewestMore(Case):
    def by_trying(self, grid, hidden, cell):
        """The fewest further cells, by trying all sets of them."""
        others = [one for one in cells_of(grid) if one not in hidden]
        for many in range(len(others) + 1):
            for more in combinations(others, many):
                if len(possible(grid, tuple(sorted(hidden + more)), cell)) > 1:
                    return many
        return None

    def test_by_trying_all_sets(self):
        seen = set()
        for grid, hidden in some_grids(60, 3, 3, 1, 25) + some_grids(30, 2, 3, 3, 26) + some_grids(20, 2, 4, 1, 27) + [
                (SQUARE, EVERY[:1]), (SQUARE, EVERY), (((1, 2, 3, 4),), ((0, 1),)), (((1,), (2,)), ((0, 0), (1, 0))),
                (((0, 0), (0, 0)), EVERY[:2]), (((5,),), ((0, 0),)), (((1, 0), (0, 1)), ((0, 0),)),
                (((0, 1), (1, 0)), ((0, 0),)), (((1, 0, 0), (0, 1, 0), (0, 0, 1)), ((0, 0),)),
                (((0, 1, 0), (0, 0, 1), (1, 0, 0)), ((0, 0),)), (((1, 0), (0, 0)), ((0, 0),))]:
            for cell in hidden[:3]:
                wanted = self.by_trying(grid, hidden, cell)
                self.assertEqual(fewest_more(grid, hidden, cell), wanted, (grid, hidden, cell))
                seen.add(wanted)
        self.assertEqual(seen, {None, 0, 1, 2, 3})

    def test_edges(self):
        self.assertIsNone(fewest_more(((1, 2, 3, 4),), ((0, 1),), (0, 1)))
        self.assertIsNone(fewest_more(((1,), (2,), (3,), (4,)), ((1, 0),), (1, 0)))
        self.assertIsNone(fewest_more(((0,) * 3,) * 3, ((0, 0),), (0, 0)))
        self.assertIsNone(fewest_more(((0,) * 3,) * 3, cells_of(((0,) * 3,) * 3), (0, 0)))
        self.assertEqual(fewest_more(((1,) * 3,) * 3, ((0, 0),), (0, 0)), 3)
        self.assertEqual(fewest_more(((1,) * 3,) * 3, cells_of(((0,) * 3,) * 3), (0, 0)), 0)
        self.assertEqual(fewest_more(((1,) * 4,) * 2, ((0, 0), (1, 3)), (0, 0)), 2)
        # By way of all three rows and columns, most cells of which are hidden already.
        grid, round_trip = ((1,) * 3,) * 3, ((0, 0), (0, 1), (1, 1), (1, 2), (2, 0), (2, 2))
        self.assertEqual(fewest_more(grid, round_trip, (0, 0)), 0)
        for more in round_trip[1:]:
            hidden = tuple(cell for cell in round_trip if cell != more)
            self.assertEqual(fewest_more(grid, hidden, (0, 0)), 1)
        # By way of only two of them.
        self.assertEqual(fewest_more(grid, ((0, 0), (1, 2), (2, 0), (2, 2)), (0, 0)), 1)
        self.assertEqual(fewest_more(grid, ((0, 0), (1, 2), (2, 2)), (0, 0)), 2)
        self.assertEqual(fewest_more(((0, 1, 0), (0, 0, 1), (1, 0, 0)), ((0, 0),), (0, 0)), 3)
        # To make the cell smaller, fewer are enough than to make it greater, and the other way round.
        self.assertEqual(fewest_more(((1, 0, 1), (0, 1, 0), (1, 0, 0)), EVERY, (0, 0)), 0)
        self.assertEqual(fewest_more(((1, 0, 1), (0, 1, 0), (1, 0, 0)), EVERY[:3], (0, 0)), 1)
        self.assertEqual(fewest_more(((1, 1, 0), (1, 0, 0), (0, 0, 1)), EVERY, (0, 0)), 0)
        self.assertEqual(fewest_more(((1, 1, 0), (1, 0, 0), (0, 0, 1)), EVERY[:3], (0, 0)), 1)

    def test_too_large(self):
        for height, width in ((4, 4), (3, 4), (4, 3)):
            grid = ((1,) * width,) * height
            self.raises(TooLarge, fewest_more, grid, ((0, 0),), (0, 0))
            self.raises(TooLarge, fewest_more, grid, cells_of(grid), (0, 0))
            self.raises(BadPlaces, fewest_more, grid, ((0, 0),), (0, 1))
            self.raises(BadPlaces, fewest_more, grid, [(0, 0)], (0, 1))
            self.assertEqual(hidden_ends(grid, ((0, 0),), (0, 0)), (1, 1))
        for grid in (((1,) * 3,) * 3, ((1,) * 4,) * 2, ((1,) * 2,) * 4):
            self.assertEqual(fewest_more(grid, ((0, 0),), (0, 0)), 3)


class Certificates(Case):
    def test_all_grids_and_all_lines(self):
        shown = [0, 0]
        for grid, hidden in SMALL[::6] + SMALL[-10:]:
            grids = agreeing(grid, hidden)[:40]
            for cell in hidden[:4]:
                counts = possible(grid, hidden, cell)
                best = reach_hidden(grid, hidden, cell)
                for late in grids:
                    count = late[cell[0]][cell[1]]
                    self.is_shown(count == counts[0], Hidden(late, best.greatest, best.below, best.above),
                                  grid, hidden, cell)
                    self.is_shown(count == counts[-1], Hidden([list(row) for row in best.least], late, best.below,
                                                              best.above), grid, hidden, cell)
                for pair in all_pairs(grid):
                    above = is_above(grid, hidden, cell, pair, counts[-1])
                    self.is_shown(above, Hidden(best.least, best.greatest, best.below, pair), grid, hidden, cell)
                    below = counts[0] > 0 and is_below(grid, hidden, cell, pair, counts[0])
                    self.is_shown(below, Hidden(best.least, best.greatest, pair, best.above), grid, hidden, cell)
                    shown[above] += 1
                none = Hidden(best.least, best.greatest, None, best.above)
                self.is_shown(counts[0] == 0, none, grid, hidden, cell)
                self.is_shown(False, Hidden(best.least, best.greatest, best.below, None), grid, hidden, cell)
        self.assertGreater(min(shown), 50)

    def test_changed_grids(self):
        best = reach_hidden(SQUARE, EVERY, (0, 0))
        self.assertEqual((best.least, best.greatest), (((1, 2), (3, 0)), ((3, 0), (1, 2))))
        wrong = (((0, 3), (4, -1)), ((2, 1), (2, 1)), ((1, 2), (3, 1)), ((1, 2),), ((1, 2), (3, 0), (0, 0)),
                 ((1, 2, 0), (3, 0, 0)), ((1,), (3,)), ((3,), (3,)), (), ((), ()), ((4, -1), (0, 3)), ((1, 2), (3,)),
                 ((True, 2), (3, 0)), ((1, 2), (3, False)), ((3, 0), (True, 2)), ((3, False), (1, 2)),
                 ((1, "2"), (3, 0)), ((1, None), (3, 0)), ((2, 2), (2, 0)), ((1, 2), (2, 1)), ((3, 1), (1, 1)))
        for grid in wrong:
            self.is_shown(False, Hidden(grid, best.greatest, best.below, best.above), SQUARE, EVERY, (0, 0))
            self.is_shown(False, Hidden(best.least, grid, best.below, best.above), SQUARE, EVERY, (0, 0))
        self.is_shown(False, Hidden(best.greatest, best.least, best.below, best.above), SQUARE, EVERY, (0, 0))
        # The totals and the cell are right, another cell is below 0.
        grid, hidden = ((1, 1, 1), (1, 1, 1)), tuple((row, column) for row in range(2) for column in range(3))
        best = reach_hidden(grid, hidden, (0, 0))
        self.is_shown(True, Hidden(((0, 2, 1), (2, 0, 1)), best.greatest, None, best.above), grid, hidden, (0, 0))
        self.is_shown(False, Hidden(((0, 3, 0), (2, -1, 2)), best.greatest, None, best.above), grid, hidden, (0, 0))
        self.is_shown(True, Hidden(best.least, ((2, 1, 0), (0, 1, 2)), None, best.above), grid, hidden, (0, 0))
        self.is_shown(False, Hidden(best.least, ((2, 2, -1), (0, 0, 3)), None, best.above), grid, hidden, (0, 0))
        # A cell that is not hidden has another count.
        grid, hidden = ((1, 1, 1), (1, 1, 1)), ((0, 0), (0, 1), (1, 0), (1, 1))
        best = reach_hidden(grid, hidden, (0, 0))
        self.is_shown(True, best, grid, hidden, (0, 0))
        self.is_shown(False, Hidden(best.least, ((2, 1, 0), (0, 1, 2)), best.below, best.above), grid, hidden, (0, 0))

    def test_changed_lines(self):
        best = reach_hidden(SQUARE, EVERY, (0, 0))
        for pair in (((1,), (0,)),):
            self.is_shown(True, Hidden(best.least, best.greatest, pair, ((0,), ())), SQUARE, EVERY, (0, 0))
        for pair in ((), ((0,),), ((0,), (), ()), ((0, 0), ()), ((0, 5), ()), ((-1, 0), ()), ((1, 0), (1,)), ((), ()),
                     ((0,), (1, 1)), ((0,), (2,)), ([0], ()), ((0,), []), [(0,), ()], ((False,), ()), (("0",), ()),
                     ((None,), ()), (0, 1), "0", 3, ((0,), (0,)), ((0, 1), (1, 0)), None, True):
            self.is_shown(False, Hidden(best.least, best.greatest, best.below, pair), SQUARE, EVERY, (0, 0))
        for pair in ((), ((1,),), ((1,), (0,), ()), ((1, 1), (0,)), ((1, 5), (0,)), ((1,), (0, 0)), ((0, 1), (0,)),
                     ((1,), (0, 1)), ([1], (0,)), ((1,), [0]), [(1,), (0,)], ((True,), (0,)), ((1,), (False,)),
                     ((), (0,)), ((1,), ()), ((1,), (1,)), (1, 0), "10", None, False):
            self.is_shown(False, Hidden(best.least, best.greatest, pair, best.above), SQUARE, EVERY, (0, 0))

    def test_another_question(self):
        best = reach_hidden(SQUARE, EVERY, (0, 0))
        self.is_shown(False, best, SQUARE, EVERY, (0, 1))
        self.is_shown(False, best, SQUARE, EVERY, (1, 1))
        self.is_shown(False, best, ((1, 2), (3, 1)), EVERY, (0, 0))
        self.is_shown(False, best, SQUARE, EVERY[:2], (0, 0))
        self.is_shown(False, best, ((1, 2, 0), (3, 0, 0)), EVERY, (0, 0))
        self.is_shown(False, best, ((1,), (3,)), ((0, 0), (1, 0)), (0, 0))
        # The same totals, other cells.
        self.is_shown(True, best, ((2, 1), (2, 1)), EVERY, (0, 0))

    def test_current_attributes(self):
        best = reach_hidden(SQUARE, EVERY, (0, 0))
        for name in ("least", "greatest", "below", "above"):
            right = getattr(best, name)
            for item in (None, 3, "12", [list(one) for one in right], list(right), {0: right}, right[:1], right + ((),)):
                setattr(best, name, item)
                self.is_shown(False, best, SQUARE, EVERY, (0, 0))
            setattr(best, name, right)
            self.is_shown(True, best, SQUARE, EVERY, (0, 0))


class Wrong(Case):
    def setUp(self):
        self.calls = (hidden_ends, reach_hidden, is_exposed, fewest_more, Hidden((), (), None, None).shows)

    def test_grids(self):
        for item in NOT_GRIDS:
            for call in self.calls:
                self.all_raise(BadTotals, call, [(item, ((0, 0),), (0, 0)), (item, (), (0, 0)), (item, None, None)])
            self.all_raise(BadTotals, exposed, [(item, ()), (item, None), (item, ((9, 9),))])

    def test_hidden_cells(self):
        for item in NOT_CELLS:
            for call in self.calls:
                self.all_raise(BadPlaces, call, [(SQUARE, item, (0, 0)), (SQUARE, item, None)])
            self.raises(BadPlaces, exposed, SQUARE, item)
        for cell in ((2, 0), (0, 3), (3, 2)):
            self.raises(BadPlaces, exposed, ((0,) * 3,) * 2, (cell,))

    def test_cells(self):
        for item in NOT_A_CELL:
            for call in self.calls:
                self.raises(BadPlaces, call, SQUARE, EVERY[1:], item)
        for call in self.calls:
            self.raises(BadPlaces, call, SQUARE, (), (0, 0))


class Newness(Case):
    def test_answers_are_new(self):
        first = reach_hidden(SQUARE, EVERY, (0, 0))
        self.assertIsNot(reach_hidden(SQUARE, EVERY, (0, 0)), first)
        self.assertTrue(reach_hidden(SQUARE, EVERY, (0, 0)) == first)
        found = exposed(SQUARE, EVERY[:3])
        found.append((1, 1))
        self.assertEqual(exposed(SQUARE, EVERY[:3]), [(0, 0), (0, 1), (1, 0)])

    def test_arguments_are_not_kept(self):
        least, greatest = [[1, 2], [3, 0]], [[3, 0], [1, 2]]
        found = Hidden(least, greatest, ((1,), (0,)), ((0,), ()))
        least[0][0] = 5
        least.append([1, 1])
        greatest[1].clear()
        self.assertEqual((found.least, found.greatest), (((1, 2), (3, 0)), ((3, 0), (1, 2))))
        self.assertEqual((found.below, found.above), (((1,), (0,)), ((0,), ())))
        self.assertEqual((least, greatest), ([[5, 2], [3, 0], [1, 1]], [[3, 0], []]))

    def test_equality(self):
        found = Hidden(SQUARE, ((3, 0), (1, 2)), ((1,), (0,)), ((0,), ()))
        self.assertTrue(found == Hidden([[1, 2], (3, 0)], [(3, 0), [1, 2]], ((1,), (0,)), ((0,), ())))
        self.assertFalse(found != Hidden(SQUARE, ((3, 0), (1, 2)), ((1,), (0,)), ((0,), ())))
        self.assert_alone(
            found, Hidden(SQUARE, SQUARE, ((1,), (0,)), ((0,), ())), Rounded(SQUARE), SQUARE, None,
            Hidden(((3, 0), (1, 2)), ((3, 0), (1, 2)), ((1,), (0,)), ((0,), ())),
            Hidden(SQUARE, ((3, 0), (1, 2)), None, ((0,), ())), Hidden(SQUARE, ((3, 0), (1, 2)), ((1,), (0,)), None),
            Hidden(SQUARE, ((3, 0), (1, 2)), ((1,), (0,)), ((0,), (1,))))


if __name__ == "__main__":
    unittest.main()
