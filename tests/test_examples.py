"""The examples of the interface, as they are printed there."""
import doctest
import unittest

COLUMNS = """
>>> from bucketsums.columns import Column
>>> column = Column([2, 0, 0, 3])
>>> [column[3], len(column), column.rows(), column.prefixes(), column.between(1, 4), column.filled(), column.steps(), column.sorted_rows()]
[3, 4, 5, [0, 2, 2, 2, 5], 3, [0, 3], 3, [0, 0, 3, 3, 3]]
"""

HISTOGRAMS = """
>>> from bucketsums.columns import Column
>>> from bucketsums.histograms import caps_of, coarser, estimate, fills_of, histogram
>>> column = Column([2, 0, 0, 3])
>>> hist = histogram(column, (0, 1))
>>> [hist.totals, hist.buckets(), caps_of(column, (0, 2)), fills_of(column, (0, 2)), estimate(hist, 0, 2), coarser(hist, (0,)).totals]
[(2, 3), [(0, 1), (1, 4)], (2, 3), (1, 1), (3, 1), (5,)]
"""

SQUARES = """
>>> from bucketsums.columns import Column
>>> from bucketsums.squares import Grouping, best_grouping, best_squares, least_grouping, least_square, square_error, square_profile
>>> column = Column((1, 3, 3, 0))
>>> [square_error(column, (0, 2)), least_square(column, 2), best_squares(column, 2).cuts, best_squares(column, 2).sums[(2, 3)], square_profile(column)]
[(13, 2), (8, 3), (0, 3), (0, 1), [(27, 4), (8, 3), (0, 1), (0, 1)]]
>>> [least_grouping(column, 2), sorted(best_grouping(column, 2).groups), best_grouping(column, 2).sums[(1, 2)], Grouping(((1, 2), (0, 3)), best_grouping(column, 2).sums).shows(column, 2)]
[(1, 2), [(0, 3), (1, 2)], (1, 2), True]
"""


class Examples(unittest.TestCase):
    def run_example(self, name, text):
        example = doctest.DocTestParser().get_doctest(text, {}, name, None, 0)
        said = []
        result = doctest.DocTestRunner(verbose=False).run(example, out=said.append)
        self.assertGreater(result.attempted, 0)
        self.assertEqual(result.failed, 0, "".join(said))

    def test_columns(self):
        self.run_example("columns", COLUMNS)

    def test_histograms(self):
        self.run_example("histograms", HISTOGRAMS)

    def test_squares(self):
        self.run_example("squares", SQUARES)


if __name__ == "__main__":
    unittest.main()
