"""Rounding: grids of counts rounded so that their totals are rounded, too."""
from bucketsums.cells import check_grid, is_like, line_sums
from bucketsums.common import check_number

LEAST_BASE = 2
MOST_BASE = 5


class Rounded:
    """A grid whose cells and totals are rounded."""

    def __init__(self, grid):
        self.grid = tuple([tuple(row) for row in grid])

    def __eq__(self, other):
        return isinstance(other, Rounded) and self.grid == other.grid

    def shows(self, grid, base):
        """Whether all cells and totals are those of a grid, rounded."""
        _check_arguments(grid, base)
        if not is_like(self.grid, grid):
            return False
        return (all([_are_rounded(late, row, base) for late, row in zip(self.grid, grid)])
                and _are_rounded(line_sums(self.grid), line_sums(grid), base)
                and _total(self.grid) in _roundings(_total(grid), base))


def _check_arguments(grid, base):
    check_grid(grid)
    check_number(base, LEAST_BASE, MOST_BASE)


def _total(grid):
    return sum([sum(row) for row in grid])


def _roundings(number, base):
    """All multiples of the base that differ from a number by less than the base."""
    low = number - number % base
    return [low] if low == number else [low, low + base]


def _are_rounded(late, numbers, base):
    """Whether some numbers are others, rounded."""
    return all([one in _roundings(number, base) for one, number in zip(late, numbers)])


def _rounded_rows(row, base):
    """All ways to round a row and its total."""
    found = [()]
    for cell in row:
        found = [begun + (late,) for begun in found for late in _roundings(cell, base)]
    return [late for late in found if sum(late) in _roundings(sum(row), base)]


def _begun(grid, base):
    """All ways to round the rows, by the totals of the columns: how many, and one of them."""
    found = {(0,) * len(grid[0]): (1, ())}
    for row in grid:
        later = {}
        for totals in found:
            many, rows = found[totals]
            for late in _rounded_rows(row, base):
                key = tuple([total + cell for total, cell in zip(totals, late)])
                known = later[key][0] if key in later else 0
                later[key] = (known + many, rows + (late,))
        found = later
    return found


def _ways(grid, base):
    """The ways to round a grid, by the totals of the columns: how many, and one of them."""
    found = _begun(grid, base)
    wanted = line_sums(grid)[len(grid):]
    return [found[totals] for totals in found
            if _are_rounded(totals, wanted, base) and sum(totals) in _roundings(_total(grid), base)]


def round_grid(grid, base):
    """A grid whose cells and totals are rounded."""
    _check_arguments(grid, base)
    return Rounded(_ways(grid, base)[0][1])


def count_roundings(grid, base):
    """How many grids have rounded cells and totals."""
    _check_arguments(grid, base)
    return sum([many for many, _ in _ways(grid, base)])
