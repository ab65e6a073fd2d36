"""Grids with given totals of rows and columns: sums of boxes, how many there are, zeros and ones."""
from bucketsums.common import MOST_COUNT, are_ascending, are_between, is_between
from bucketsums.errors import BadIndex, BadPlaces, BadTotals

MOST_LINES = 4


class BoxEnds:
    """Two grids, with the smallest and with the greatest sum of a box."""

    def __init__(self, least, greatest):
        self.least = tuple([tuple(row) for row in least])
        self.greatest = tuple([tuple(row) for row in greatest])

    def __eq__(self, other):
        return isinstance(other, BoxEnds) and self.least == other.least and self.greatest == other.greatest

    def shows(self, rows, columns, some, others):
        """Whether the grids have the totals and these sums."""
        _check_box(rows, columns, some, others)
        if not _has_totals(self.least, rows, columns) or not _has_totals(self.greatest, rows, columns):
            return False
        found = (_box_sum(self.least, some, others), _box_sum(self.greatest, some, others))
        return found == _both_ends(rows, columns, some, others)


class Bits:
    """A grid of zeros and ones."""

    def __init__(self, grid):
        self.grid = tuple([tuple(row) for row in grid])

    def __eq__(self, other):
        return isinstance(other, Bits) and self.grid == other.grid

    def shows(self, rows, columns):
        """Whether the grid has the totals, and no other cells."""
        _check_totals(rows, columns)
        return _has_totals(self.grid, rows, columns) and all([are_between(row, 0, 1) for row in self.grid])


class Blocked:
    """Rows that show that there is no grid of zeros and ones."""

    def __init__(self, some):
        self.some = tuple(some)

    def __eq__(self, other):
        return isinstance(other, Blocked) and self.some == other.some

    def shows(self, rows, columns):
        """Whether the totals of these rows are more than the columns can take."""
        _check_totals(rows, columns)
        return are_ascending(self.some, len(rows)) and _do_block(self.some, rows, columns)


def _are_totals(totals):
    return isinstance(totals, tuple) and 1 <= len(totals) <= MOST_LINES and are_between(totals, 0, MOST_COUNT)


def _check_totals(rows, columns):
    """Raise BadTotals for what is not totals of the rows and of the columns."""
    if not _are_totals(rows) or not _are_totals(columns):
        raise BadTotals(f"totals are a tuple of 1 to {MOST_LINES} integers from 0 to {MOST_COUNT}")
    if sum(rows) != sum(columns):
        raise BadTotals("the totals of the rows and of the columns have different sums")


def _check_box(rows, columns, some, others):
    """The same, and raise BadPlaces for what is not a box."""
    _check_totals(rows, columns)
    if not are_ascending(some, len(rows)) or not are_ascending(others, len(columns)):
        raise BadPlaces("a box is an ascending tuple of rows and one of columns")


def _has_totals(grid, rows, columns):
    """Whether an item is a grid with the totals."""
    if not isinstance(grid, tuple) or len(grid) != len(rows):
        return False
    # By the totals, no cell can be greater than any total can be.
    if not all([isinstance(row, tuple) and len(row) == len(columns) and are_between(row, 0, MOST_COUNT)
                for row in grid]):
        return False
    across = [sum([row[at] for row in grid]) for at in range(len(columns))]
    return [sum(row) for row in grid] == list(rows) and across == list(columns)


def _box_sum(grid, some, others):
    return sum([grid[row][column] for row in some for column in others])


def _both_ends(rows, columns, some, others):
    """The smallest and the greatest sum of a box."""
    along = sum([rows[row] for row in some])
    across = sum([columns[column] for column in others])
    return (max(0, along + across - sum(rows)), min(along, across))


def _box_first(some, many):
    """All indices, those of the box in front."""
    return list(some) + [at for at in range(many) if at not in some]


def _filled(rows, columns, row_order, column_order):
    """A grid whose cells take, one after the other, as much as they can."""
    along = list(rows)
    across = list(columns)
    grid = [[0] * len(columns) for _ in rows]
    for row in row_order:
        for column in column_order:
            taken = min(along[row], across[column])
            grid[row][column] = taken
            along[row] -= taken
            across[column] -= taken
    return grid


def _rows_with(total, most):
    """All rows with a total, no cell greater than told, in ascending order."""
    begun = [((), total)]
    for at, limit in enumerate(most):
        later = sum(most[at + 1:])
        begun = [(row + (cell,), left - cell) for row, left in begun
                 for cell in range(max(0, left - later), min(limit, left) + 1)]
    return [row for row, _ in begun]


def _less(columns, row):
    return tuple([total - cell for total, cell in zip(columns, row)])


def _many(rows, columns, known):
    """How many grids have the totals; what is known already is looked up."""
    if len(rows) < 2:
        return 1
    # The order of the columns does not matter for the number.
    key = (len(rows), tuple(sorted(columns)))
    if key not in known:
        known[key] = sum([_many(rows[1:], _less(columns, row), known) for row in _rows_with(rows[0], columns)])
    return known[key]


def _next_row(rows, columns, number, known):
    """The first row of the grid with an index, and its index among the grids with this row."""
    for row in _rows_with(rows[0], columns):
        later = _many(rows[1:], _less(columns, row), known)
        if number < later:
            break
        number -= later
    return row, number


def _do_block(some, rows, columns):
    """Whether the totals of some rows are more than the columns can take."""
    return sum([rows[row] for row in some]) > sum([min(total, len(some)) for total in columns])


def _blocking(rows, columns):
    """Rows that block, or None; if any rows do, so do as many rows with the greatest totals."""
    order = [row for _, row in sorted([(-total, row) for row, total in enumerate(rows)])]
    for many in range(1, len(rows) + 1):
        some = sorted(order[:many])
        if _do_block(some, rows, columns):
            return some
    return None


def _bits(rows, columns):
    """A grid of zeros and ones, if nothing blocks."""
    left = columns
    grid = []
    for total in rows:
        # The columns that need most are served first.
        order = sorted([(-need, column) for column, need in enumerate(left)])
        chosen = [column for _, column in order[:total]]
        row = [1 if column in chosen else 0 for column in range(len(columns))]
        left = _less(left, row)
        grid.append(row)
    return grid


def box_ends(rows, columns, some, others):
    """The smallest and the greatest sum of a box."""
    _check_box(rows, columns, some, others)
    return _both_ends(rows, columns, some, others)


def reach_box(rows, columns, some, others):
    """Grids with the smallest and with the greatest sum of a box."""
    _check_box(rows, columns, some, others)
    row_order = _box_first(some, len(rows))
    column_order = _box_first(others, len(columns))
    away = column_order[len(others):] + list(others)
    return BoxEnds(_filled(rows, columns, row_order, away), _filled(rows, columns, row_order, column_order))


def count_grids(rows, columns):
    """How many grids have the totals."""
    _check_totals(rows, columns)
    return _many(rows, columns, {})


def zero_one(rows, columns):
    """A grid of zeros and ones, or rows that show that there is none."""
    _check_totals(rows, columns)
    some = _blocking(rows, columns)
    if some is not None:
        return Blocked(some)
    return Bits(_bits(rows, columns))


def nth_grid(rows, columns, number):
    """The grid with an index, in the order of the grids as tuples."""
    _check_totals(rows, columns)
    known = {}
    if not is_between(number, 0, _many(rows, columns, known) - 1):
        raise BadIndex("there is no grid with this index")
    grid = []
    left = columns
    for at in range(len(rows)):
        row, number = _next_row(rows[at:], left, number, known)
        left = _less(left, row)
        grid.append(row)
    return tuple(grid)
