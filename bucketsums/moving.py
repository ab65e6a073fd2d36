"""Moving rows: the fewest steps by which one column becomes another one."""
from bucketsums.columns import check_alike
from bucketsums.common import is_whole


class Moved:
    """How many rows go from each value to the next one, and heights that prove that fewer steps are not enough."""

    def __init__(self, flows, heights):
        self.flows = tuple(flows)
        self.heights = tuple(heights)

    def __eq__(self, other):
        return isinstance(other, Moved) and self.flows == other.flows and self.heights == other.heights

    def shows(self, one, other):
        """Whether the flows and the heights are right for two columns."""
        check_alike(one, other)
        if not _are_wholes(self.flows, len(one) - 1) or not _are_wholes(self.heights, len(one)):
            return False
        return self.flows == _flows(one, other) and _are_heights(self.heights, one, other)


def _are_wholes(items, many):
    """Whether an item is a tuple of so many integers."""
    return isinstance(items, tuple) and len(items) == many and all([is_whole(item) for item in items])


def _flows(one, other):
    """How many rows go from each value to the next one, less those that go back."""
    # So many rows more are at most at the value before than after the steps.
    return tuple([before - after for before, after in zip(one.prefixes()[1:-1], other.prefixes()[1:-1])])


def _steps(one, other):
    return sum([abs(flow) for flow in _flows(one, other)])


def _are_heights(heights, one, other):
    """Whether integers are heights whose sum over all rows grows by as much as there are steps."""
    if not all([abs(late - height) <= 1 for height, late in zip(heights, heights[1:])]):
        return False
    grown = sum([height * (after - before) for height, before, after in zip(heights, one.counts, other.counts)])
    return grown == _steps(one, other)


def _sign(number):
    if number == 0:
        return 0
    return 1 if number > 0 else -1


def least_steps(one, other):
    """The least number of steps by which one column becomes another one."""
    check_alike(one, other)
    return _steps(one, other)


def move_rows(one, other):
    """The flows by which one column becomes another one, and the heights that prove it."""
    check_alike(one, other)
    flows = _flows(one, other)
    heights = [0]
    for flow in flows:
        heights.append(heights[-1] + _sign(flow))
    return Moved(flows, heights)


def fewest_changed(one, other):
    """The least number of rows whose values must be changed."""
    check_alike(one, other)
    return sum([max(0, before - after) for before, after in zip(one.counts, other.counts)])


def farthest_row(one, other):
    """The greatest difference of the values of rows with the same rank."""
    check_alike(one, other)
    return max([abs(late - value) for value, late in zip(one.sorted_rows(), other.sorted_rows())], default=0)
