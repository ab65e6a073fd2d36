"""Grids of counts that are given cell by cell: checks and sums that several files need."""
from bucketsums.common import MOST_COUNT, are_between, is_whole
from bucketsums.errors import BadTotals
from bucketsums.grids import MOST_LINES


def check_grid(grid):
    """Raise BadTotals for what is not a grid of counts."""
    if not isinstance(grid, tuple) or not 1 <= len(grid) <= MOST_LINES:
        raise BadTotals(f"a grid is a tuple of 1 to {MOST_LINES} rows")
    for row in grid:
        if not isinstance(row, tuple) or not 1 <= len(row) <= MOST_LINES or len(row) != len(grid[0]):
            raise BadTotals(f"rows are tuples with the same number of 1 to {MOST_LINES} cells")
        if not are_between(row, 0, MOST_COUNT):
            raise BadTotals(f"a cell is not an integer from 0 to {MOST_COUNT}")


def is_like(other, grid):
    """Whether an item is a grid of the same shape, with integers of at least 0."""
    if not isinstance(other, tuple) or len(other) != len(grid):
        return False
    return all([isinstance(row, tuple) and len(row) == len(grid[0])
                and all([is_whole(cell) and cell >= 0 for cell in row]) for row in other])


def line_sums(grid):
    """The totals of the rows and those of the columns, in one list."""
    return [sum(row) for row in grid] + [sum([row[at] for row in grid]) for at in range(len(grid[0]))]
