"""Moving rows: points 1 and 25, the section bucketsums/moving.py."""
import random
import unittest
from itertools import product

from bucketsums.columns import Column
from bucketsums.errors import BadColumn, Unlike
from bucketsums.moving import Moved, farthest_row, fewest_changed, least_steps, move_rows
from bucketsums.ranks import Marks
from tests.checking import Case
from tests.plain import NOT_COLUMNS, all_counts

ONE, OTHER = Column((3, 0, 1, 1)), Column((1, 2, 2, 0))


def steps_from(counts):
    """The least number of steps to each column, by a search from column to column."""
    found, border = {counts: 0}, [counts]
    while border:
        later = []
        for one in border:
            for at, to in [(at, to) for at in range(len(one)) for to in (at - 1, at + 1) if 0 <= to < len(one)]:
                late = list(one)
                late[at] -= 1
                late[to] += 1
                if late[at] >= 0 and tuple(late) not in found:
                    found[tuple(late)] = found[one] + 1
                    later.append(tuple(late))
        border = later
    return found


def sorted_rows(counts):
    return [value for value, count in enumerate(counts) for _ in range(count)]


def alike(width, most):
    """All pairs of counts with the same number of rows."""
    listed = all_counts(width, most)
    return [(one, other) for one in listed for other in listed if sum(one) == sum(other)]


def some_pairs(many, seed):
    """Pairs of counts with the same number of rows, always the same ones."""
    source = random.Random(seed)
    found = []
    for _ in range(many):
        one = [source.randint(0, 9) for _ in range(source.randint(1, 12))]
        other = [0] * len(one)
        for _ in range(sum(one)):
            other[source.choice([at for at, count in enumerate(other) if count < 9])] += 1
        found.append((tuple(one), tuple(other)))
    return found


def flows_by_rows(one, other):
    """How many rows go over each border, if the rows keep their order."""
    flows = [0] * (len(one) - 1)
    for value, late in zip(sorted_rows(one), sorted_rows(other)):
        for border in range(value, late):
            flows[border] += 1
        for border in range(late, value):
            flows[border] -= 1
    return tuple(flows)


def are_heights(one, other, heights):
    """Whether heights are as the document wants them."""
    if any(abs(late - height) > 1 for height, late in zip(heights, heights[1:])):
        return False
    grown = sum(heights[value] for value in sorted_rows(other)) - sum(heights[value] for value in sorted_rows(one))
    return grown == sum(abs(flow) for flow in flows_by_rows(one, other))


ALL = alike(1, 9) + alike(2, 3) + alike(3, 2) + alike(4, 1) + some_pairs(80, 25) + [
    ((3, 0, 1, 1), (1, 2, 2, 0)), ((9,) * 12, (9,) * 12), ((0,) * 12, (0,) * 12),
    ((9,) * 6 + (0,) * 6, (0,) * 6 + (9,) * 6), ((0,) * 6 + (9,) * 6, (9,) * 6 + (0,) * 6), ((9, 0), (0, 9)),
    ((9,) + (0,) * 11, (0,) * 11 + (9,))]


class Answers(Case):
    def test_least_steps_by_a_search(self):
        for width, most in ((1, 9), (2, 5), (3, 2), (4, 1)):
            for one in all_counts(width, most):
                for other, steps in steps_from(one).items():
                    if max(other) < 10:
                        self.assertEqual(least_steps(Column(one), Column(other)), steps)
        for other, steps in steps_from((3, 0, 1, 1)).items():
            self.assertEqual(least_steps(ONE, Column(other)), steps)

    def test_by_sorted_rows(self):
        for one, other in ALL:
            pair = (Column(one), Column(other))
            moves = [abs(late - value) for value, late in zip(sorted_rows(one), sorted_rows(other))]
            self.assertEqual(least_steps(*pair), sum(moves))
            self.assertEqual(farthest_row(*pair), max(moves, default=0))
            left = sorted_rows(other)
            for value in sorted_rows(one):
                if value in left:
                    left.remove(value)
            self.assertEqual(fewest_changed(*pair), len(left))

    def test_flows_and_heights(self):
        for one, other in ALL:
            pair = (Column(one), Column(other))
            found = move_rows(*pair)
            self.assertEqual((found.flows, type(found.flows)), (flows_by_rows(one, other), tuple))
            self.assertEqual((len(found.heights), type(found.heights)), (len(one), tuple))
            self.assertTrue(are_heights(one, other, found.heights))
            self.is_shown(True, found, *pair)
            # Each value gains what comes in and loses what goes out.
            late = list(one)
            for value, flow in enumerate(found.flows):
                late[value] -= flow
                late[value + 1] += flow
            self.assertEqual(tuple(late), other)

    def test_edges(self):
        self.assertEqual(least_steps(Column((9,) * 6 + (0,) * 6), Column((0,) * 6 + (9,) * 6)), 9 * 6 * 6)
        self.assertEqual(farthest_row(Column((9,) * 6 + (0,) * 6), Column((0,) * 6 + (9,) * 6)), 6)
        self.assertEqual(least_steps(Column((1,) + (0,) * 11), Column((0,) * 11 + (1,))), 11)
        self.assertEqual(farthest_row(Column((1,) + (0,) * 11), Column((0,) * 11 + (1,))), 11)
        for counts in ((0,), (0, 0, 0), (9,), (9,) * 12, (1, 2, 3)):
            pair = (Column(counts), Column(counts))
            self.assertEqual([least_steps(*pair), fewest_changed(*pair), farthest_row(*pair)], [0, 0, 0])
            self.assertEqual(move_rows(*pair).flows, (0,) * (len(counts) - 1))
        self.assertEqual(move_rows(Column((4,)), Column((4,))).flows, ())
        self.assertEqual(len(move_rows(Column((4,)), Column((4,))).heights), 1)


class Certificates(Case):
    def test_all_heights(self):
        shown = [0, 0]
        for one, other in alike(3, 2)[::5] + [((3, 0, 1, 1), (1, 2, 2, 0)), ((1, 0), (0, 1)), ((2, 2), (2, 2)), ((5,), (5,))]:
            pair, flows = (Column(one), Column(other)), flows_by_rows(one, other)
            for heights in product(range(-2, 3), repeat=len(one)):
                right = are_heights(one, other, heights)
                shown[right] += 1
                self.is_shown(right, Moved(list(flows), list(heights)), *pair)
                self.is_shown(right, Moved(flows, [height + 10 ** 20 for height in heights]), *pair)
        self.assertGreater(min(shown), 100)

    def test_all_flows(self):
        for one, other in ((((3, 0, 1, 1)), (1, 2, 2, 0)), ((2, 2, 0), (1, 2, 1)), ((1, 1), (1, 1)), ((0, 3), (3, 0))):
            pair, best = (Column(one), Column(other)), move_rows(Column(one), Column(other))
            for flows in product(range(-3, 4), repeat=len(one) - 1):
                self.is_shown(flows == best.flows, Moved(flows, best.heights), *pair)

    def test_changed(self):
        self.is_shown(True, Moved((2, 0, -1), (0, 1, 1, 0)), ONE, OTHER)
        for flows in ((2, 0), (2, 0, -1, 0), (2, 0, 1), (2, 0, 0), (1, 0, -1), (-2, 0, 1), (), (2, False, -1),
                      (2, 0, "-1"), (2, None, -1), ((2,), 0, -1), (2, -1)):
            self.is_shown(False, Moved(flows, (0, 1, 1, 0)), ONE, OTHER)
        for heights in ((0, 1, 1), (0, 1, 1, 0, 0), (0, 1, 1, 1), (0, 0, 0, 0), (1, 0, 0, 1), (0, 2, 2, 0), (), (0, 1, 1, -1),
                        (False, 1, 1, 0), (0, True, 1, 0), (0, "1", 1, 0), (0, None, 1, 0), (0, 1, 0, 0), (-1, 1, 1, 0)):
            self.is_shown(False, Moved((2, 0, -1), heights), ONE, OTHER)
        self.is_shown(True, Moved((2, 0, -1), (-5, -4, -4, -5)), ONE, OTHER)
        # Heights that grow too fast, with the right sum.
        self.is_shown(True, Moved((1, -1), (0, 1, 0)), Column((1, 0, 1)), Column((0, 2, 0)))
        self.is_shown(False, Moved((1, -1), (0, 2, 2)), Column((1, 0, 1)), Column((0, 2, 0)))

    def test_another_question(self):
        found = move_rows(ONE, OTHER)
        self.is_shown(False, found, OTHER, ONE)
        self.is_shown(False, found, ONE, ONE)
        self.is_shown(False, found, Column((3, 0, 2)), Column((1, 2, 2)))
        self.is_shown(False, found, Column((3, 0, 1, 1, 0)), Column((1, 2, 2, 0, 0)))
        self.is_shown(True, found, Column((4, 0, 1, 1)), Column((2, 2, 2, 0)))

    def test_current_attributes(self):
        found = move_rows(ONE, OTHER)
        for name in ("flows", "heights"):
            right = getattr(found, name)
            for item in (list(right), None, 3, "201", {2: 0}, right[:1], right + (0,)):
                setattr(found, name, item)
                self.is_shown(False, found, ONE, OTHER)
            setattr(found, name, right)
            self.is_shown(True, found, ONE, OTHER)


class Wrong(Case):
    def setUp(self):
        self.calls = (least_steps, move_rows, fewest_changed, farthest_row, Moved((), ()).shows)

    def test_columns(self):
        for item in NOT_COLUMNS:
            for call in self.calls:
                self.all_raise(BadColumn, call, [(item, OTHER), (ONE, item), (item, item), (item, Column((1,)))])

    def test_unlike(self):
        for call in self.calls:
            self.all_raise(Unlike, call, [
                (ONE, Column((5,))), (ONE, Column((1, 2, 2))), (ONE, Column((1, 2, 2, 0, 0))), (ONE, Column((1, 2, 2, 1))),
                (Column((0,)), Column((1,))), (Column((0, 0)), Column((0,))), (Column((9,)), Column((8,))), (OTHER, Column((0,) * 4))])


class Newness(Case):
    def test_answers_are_new(self):
        self.assertIsNot(move_rows(ONE, OTHER), move_rows(ONE, OTHER))
        self.assertTrue(move_rows(ONE, OTHER) == move_rows(ONE, OTHER))
        self.assertEqual((ONE.counts, OTHER.counts), ((3, 0, 1, 1), (1, 2, 2, 0)))

    def test_arguments_are_not_kept(self):
        flows, heights = [2, 0, -1], [0, 1, 1, 0]
        found = Moved(flows, heights)
        flows.append(1)
        heights.clear()
        self.assertEqual((found.flows, found.heights, flows, heights), ((2, 0, -1), (0, 1, 1, 0), [2, 0, -1, 1], []))

    def test_equality(self):
        found = Moved((2, 0, -1), (0, 1, 1, 0))
        self.assertTrue(found == Moved([2, 0, -1], [0, 1, 1, 0]))
        self.assertFalse(found != Moved([2, 0, -1], [0, 1, 1, 0]))
        self.assert_alone(found, Moved((2, 0, -1), (1, 2, 2, 1)), Moved((2, 0, 1), (0, 1, 1, 0)),
                          Marks((2, 0, -1), (0, 1, 1, 0)), ((2, 0, -1), (0, 1, 1, 0)), None)


if __name__ == "__main__":
    unittest.main()
