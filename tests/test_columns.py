"""Columns: points 1 and 2, the section bucketsums/columns.py."""
import unittest

from bucketsums.columns import Column
from bucketsums.errors import BadCounts, BadRange, BadValue
from bucketsums.histograms import Histogram
from tests.checking import Case
from tests.plain import NOT_INTEGERS, NOT_RANGES, STRANGE, all_counts, all_ranges, some_counts

EDGES = [(0,), (9,), (0,) * 12, (9,) * 12, tuple(range(10)) + (0, 9), (1, 1, 0, 0, 1)]
ORDINARY = some_counts(60, 12, 1) + EDGES


class Answers(Case):
    def test_counts_and_length(self):
        for counts in ORDINARY:
            column = Column(counts)
            self.assertEqual(column.counts, counts)
            self.assertIs(type(column.counts), tuple)
            self.assertEqual(len(column), len(counts))
            self.assertEqual([column[value] for value in range(len(counts))], list(counts))
            self.assertEqual(Column(list(counts)).counts, counts)

    def test_rows_one_by_one(self):
        for counts in ORDINARY:
            column, rows = Column(counts), []
            for value in range(len(counts)):
                for _ in range(counts[value]):
                    rows.append(value)
            self.assertEqual(column.sorted_rows(), rows)
            self.assertEqual(column.rows(), len(rows))
            self.assertEqual(column.filled(), sorted(set(rows)))
            below = [len([row for row in rows if row < value]) for value in range(len(counts) + 1)]
            self.assertEqual(column.prefixes(), below)

    def test_ranges_one_by_one(self):
        for counts in ORDINARY:
            column = Column(counts)
            for first, past in all_ranges(len(counts)):
                total = 0
                for value in range(first, past):
                    total += counts[value]
                self.assertEqual(column.between(first, past), total)

    def test_steps(self):
        for counts in ORDINARY + all_counts(4, 2):
            runs, last = 0, None
            for count in counts:
                runs += count != last
                last = count
            self.assertEqual(Column(counts).steps(), runs)

    def test_edges(self):
        self.assertEqual(Column((0,)).prefixes(), [0, 0])
        self.assertEqual(Column((0,)).sorted_rows(), [])
        self.assertEqual(Column((0,)).filled(), [])
        self.assertEqual(Column((9,) * 12).rows(), 108)
        self.assertEqual(Column((9,) * 12).between(0, 12), 108)
        self.assertEqual(Column((9,) * 12).steps(), 1)
        self.assertEqual(Column((1, 2, 3)).between(2, 3), 3)


class Wrong(Case):
    def test_counts(self):
        wrong = [[item] for item in STRANGE]
        wrong += [[[]], [()], [(0,) * 13], [[1] * 14], [(10,)], [(1, -1)], [[1, 2, 10]], [Column([1])]]
        wrong += [[(1, item)] for item in NOT_INTEGERS] + [[[item]] for item in NOT_INTEGERS]
        self.all_raise(BadCounts, Column, wrong)

    def test_a_call_that_fails_changes_nothing(self):
        column = Column((1, 2))
        self.raises(BadCounts, column.__init__, (1, 10))
        self.assertEqual(column.counts, (1, 2))

    def test_values(self):
        column = Column((1, 2, 3))
        wrong = [[item] for item in NOT_INTEGERS + (-1, 3, 12, (), slice(0, 1), 10 ** 30)]
        self.all_raise(BadValue, lambda value: column[value], wrong)
        self.raises(BadValue, lambda: Column((5,))[1])

    def test_ranges(self):
        column = Column((1, 2, 3))
        self.all_raise(BadRange, column.between, NOT_RANGES)

    def test_not_iterated_over(self):
        with self.assertRaises(TypeError):
            list(Column((1, 2)))


class Newness(Case):
    def test_returned_lists_are_new(self):
        column = Column((2, 0, 1))
        for call in (column.prefixes, column.filled, column.sorted_rows):
            first, again = call(), call()
            self.assertIs(type(first), list)
            self.assertIsNot(first, again)
            first.append("changed")
            self.assertEqual(call(), again)
        self.assertEqual(column.counts, (2, 0, 1))

    def test_the_argument_is_not_kept(self):
        counts = [1, 2]
        column = Column(counts)
        counts.append(3)
        counts[0] = 7
        self.assertEqual(column.counts, (1, 2))
        self.assertEqual(counts, [7, 2, 3])

    def test_equality(self):
        column = Column((1, 2))
        self.assertTrue(column == Column([1, 2]))
        self.assertFalse(column != Column([1, 2]))
        self.assert_alone(column, Column((2, 1)), Column((1,)), Column((1, 2, 0)), (1, 2), [1, 2],
                          None, "12", Histogram(2, (0, 1), (1, 2)))


if __name__ == "__main__":
    unittest.main()
