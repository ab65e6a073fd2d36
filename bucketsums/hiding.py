"""Hidden cells: what the totals of rows and columns tell about cells that are not told.

Rows and columns are lines, numbered from 0, the rows first. A walk leads from line
to line: from a row to a column by a cell that falls by 1, from a column to a row by
a cell that grows by 1. So it changes only the totals of its first and its last line;
if it leads from the row of a cell to its column, the cell itself can grow by 1, if it
leads from the column to the row, the cell can fall by 1.
"""
from bucketsums.cells import check_grid, is_like, line_sums
from bucketsums.common import are_ascending, is_between, is_pair
from bucketsums.errors import BadPlaces, TooLarge

MOST_CELLS = 9


class Hidden:
    """Two grids with the smallest and the greatest count of a cell, and lines that prove both."""

    def __init__(self, least, greatest, below, above):
        self.least = tuple([tuple(row) for row in least])
        self.greatest = tuple([tuple(row) for row in greatest])
        self.below = below
        self.above = above

    def __eq__(self, other):
        return (isinstance(other, Hidden) and self.least == other.least and self.greatest == other.greatest
                and self.below == other.below and self.above == other.above)

    def shows(self, grid, hidden, cell):
        """Whether the grids agree with what is known, and all are right for the cell."""
        _check_cell(grid, hidden, cell)
        if not _agrees(self.least, grid, hidden) or not _agrees(self.greatest, grid, hidden):
            return False
        least, greatest = _both_ends(grid, hidden, cell)
        row, column = cell
        return (self.least[row][column] == least and self.greatest[row][column] == greatest
                and _is_below(self.below, grid, hidden, cell, least)
                and _is_above(self.above, grid, hidden, cell, greatest))


def _are_cells(cells, grid):
    """Whether an item is an ascending tuple of cells of a grid."""
    if not isinstance(cells, tuple) or not all([is_pair(cell) for cell in cells]):
        return False
    if not all([is_between(row, 0, len(grid) - 1) and is_between(column, 0, len(grid[0]) - 1)
                for row, column in cells]):
        return False
    return all([one < other for one, other in zip(cells, cells[1:])])


def _check_hidden(grid, hidden):
    """Raise BadTotals for what is not a grid, BadPlaces for what is not hidden cells."""
    check_grid(grid)
    if not _are_cells(hidden, grid):
        raise BadPlaces("this is not an ascending tuple of cells of the grid")


def _check_cell(grid, hidden, cell):
    """The same, and raise BadPlaces for what is not a hidden cell."""
    _check_hidden(grid, hidden)
    if not is_pair(cell) or cell not in hidden:
        raise BadPlaces("this is not a hidden cell")


def _agrees(other, grid, hidden):
    """Whether an item is a grid that agrees with what is known."""
    if not is_like(other, grid) or line_sums(other) != line_sums(grid):
        return False
    return all([other[row][column] == count for row, counts in enumerate(grid)
                for column, count in enumerate(counts) if (row, column) not in hidden])


def _are_lines(pair, grid):
    """Whether an item is a pair of ascending rows and ascending columns."""
    return (isinstance(pair, tuple) and len(pair) == 2
            and are_ascending(pair[0], len(grid)) and are_ascending(pair[1], len(grid[0])))


def _loose(hidden, rows, columns):
    """The hidden cells in the columns that are not in the rows, too."""
    return [(row, column) for row, column in hidden if row not in rows and column in columns]


def _difference(grid, hidden, rows, columns):
    """The sum of the hidden cells in the rows, less the sum of those in the columns."""
    along = sum([grid[row][column] for row, column in hidden if row in rows])
    return along - sum([grid[row][column] for row, column in hidden if column in columns])


def _is_above(pair, grid, hidden, cell, greatest):
    """Whether rows and columns prove that no count of the cell is greater."""
    if not _are_lines(pair, grid):
        return False
    rows, columns = pair
    return (cell[0] in rows and cell[1] not in columns and _loose(hidden, rows, columns) == []
            and _difference(grid, hidden, rows, columns) == greatest)


def _is_below(pair, grid, hidden, cell, least):
    """Whether rows and columns prove that no count of the cell is smaller; for 0 there are none."""
    if least == 0:
        return pair is None
    if not _are_lines(pair, grid):
        return False
    rows, columns = pair
    # So the row of the cell is not among the rows, and its column is among the columns.
    return _loose(hidden, rows, columns) == [cell] and -_difference(grid, hidden, rows, columns) == least


def _steps(grid, prices, cell):
    """All steps from line to line, each with its price; the cell itself makes none."""
    found = []
    for row, column in prices:
        line = len(grid) + column
        price = prices[(row, column)]
        if (row, column) != cell:
            found.append((line, row, price))
            if grid[row][column] > 0:
                found.append((row, line, price))
    return found


def _walks(grid, prices, cell, begin):
    """For each line that walks from one line reach: the least price, and the line before it."""
    found = {begin: (0, None)}
    steps = _steps(grid, prices, cell)
    for _ in range(len(grid) + len(grid[0])):
        for one, other, price in steps:
            if one in found and (other not in found or found[one][0] + price < found[other][0]):
                found[other] = (found[one][0] + price, one)
    return found


def _walked(grid, walks, end):
    """The grid after a walk to a line."""
    height = len(grid)
    late = [list(row) for row in grid]
    begin = walks[end][1]
    while begin is not None:
        if begin < height:
            late[begin][end - height] -= 1
        else:
            late[end][begin - height] += 1
        end = begin
        begin = walks[end][1]
    return late


def _free(hidden):
    """Prices for walks by hidden cells."""
    return {cell: 0 for cell in hidden}


def _lines_of(walks, height):
    """The rows and the columns that walks reach."""
    lines = sorted(walks)
    return (tuple([line for line in lines if line < height]),
            tuple([line - height for line in lines if line >= height]))


def _most(grid, hidden, cell):
    """A grid with the greatest count of a cell, and the lines that prove it."""
    row, column = cell
    end = len(grid) + column
    walks = _walks(grid, _free(hidden), cell, row)
    while end in walks:
        grid = _walked(grid, walks, end)
        grid[row][column] += 1
        walks = _walks(grid, _free(hidden), cell, row)
    return grid, _lines_of(walks, len(grid))


def _fewest(grid, hidden, cell):
    """A grid with the smallest count of a cell, and the lines that prove it, or None for 0."""
    row, column = cell
    begin = len(grid) + column
    walks = _walks(grid, _free(hidden), cell, begin)
    while grid[row][column] > 0 and row in walks:
        grid = _walked(grid, walks, row)
        grid[row][column] -= 1
        walks = _walks(grid, _free(hidden), cell, begin)
    if grid[row][column] == 0:
        return grid, None
    return grid, _lines_of(walks, len(grid))


def _both_ends(grid, hidden, cell):
    """The smallest and the greatest possible count of a hidden cell."""
    row, column = cell
    return (_fewest(grid, hidden, cell)[0][row][column], _most(grid, hidden, cell)[0][row][column])


def _change_price(grid, prices, cell):
    """The least price of cells with which the count of a cell can change, or None."""
    row, column = cell
    line = len(grid) + column
    found = []
    walks = _walks(grid, prices, cell, row)
    if line in walks:
        found.append(walks[line][0])
    walks = _walks(grid, prices, cell, line)
    if grid[row][column] > 0 and row in walks:
        found.append(walks[row][0])
    return min(found, default=None)


def hidden_ends(grid, hidden, cell):
    """The smallest and the greatest possible count of a hidden cell."""
    _check_cell(grid, hidden, cell)
    return _both_ends(grid, hidden, cell)


def reach_hidden(grid, hidden, cell):
    """Grids with the smallest and the greatest possible count of a hidden cell, with proofs."""
    _check_cell(grid, hidden, cell)
    least, below = _fewest(grid, hidden, cell)
    greatest, above = _most(grid, hidden, cell)
    return Hidden(least, greatest, below, above)


def is_exposed(grid, hidden, cell):
    """Whether the count of a hidden cell follows from what is known."""
    _check_cell(grid, hidden, cell)
    return _change_price(grid, _free(hidden), cell) is None


def exposed(grid, hidden):
    """The hidden cells whose counts follow from what is known, ascending."""
    _check_hidden(grid, hidden)
    return [cell for cell in hidden if _change_price(grid, _free(hidden), cell) is None]


def fewest_more(grid, hidden, cell):
    """The fewest further cells that must be hidden so that the count of a cell does not follow, or None."""
    _check_cell(grid, hidden, cell)
    if len(grid) * len(grid[0]) > MOST_CELLS:
        raise TooLarge(f"the grid has more than {MOST_CELLS} cells")
    cells = [(row, column) for row in range(len(grid)) for column in range(len(grid[0]))]
    return _change_price(grid, {one: 0 if one in hidden else 1 for one in cells}, cell)
