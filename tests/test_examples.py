"""The examples of the interface, as they are printed there."""
import doctest
import unittest

COLUMNS = """
>>> from bucketsums.columns import Column
>>> column = Column([2, 0, 0, 3])
>>> [column[3], len(column), column.rows(), column.prefixes(), column.between(1, 4), column.filled(), column.steps(), column.sorted_rows()]
[3, 4, 5, [0, 2, 2, 2, 5], 3, [0, 3], 3, [0, 0, 3, 3, 3]]
"""

HISTOGRAMS = """
>>> from bucketsums.columns import Column
>>> from bucketsums.histograms import caps_of, coarser, estimate, fills_of, histogram
>>> column = Column([2, 0, 0, 3])
>>> hist = histogram(column, (0, 1))
>>> [hist.totals, hist.buckets(), caps_of(column, (0, 2)), fills_of(column, (0, 2)), estimate(hist, 0, 2), coarser(hist, (0,)).totals]
[(2, 3), [(0, 1), (1, 4)], (2, 3), (1, 1), (3, 1), (5,)]
"""

SQUARES = """
>>> from bucketsums.columns import Column
>>> from bucketsums.squares import Grouping, best_grouping, best_squares, least_grouping, least_square, square_error, square_profile
>>> column = Column((1, 3, 3, 0))
>>> [square_error(column, (0, 2)), least_square(column, 2), best_squares(column, 2).cuts, best_squares(column, 2).sums[(2, 3)], square_profile(column)]
[(13, 2), (8, 3), (0, 3), (0, 1), [(27, 4), (8, 3), (0, 1), (0, 1)]]
>>> [least_grouping(column, 2), sorted(best_grouping(column, 2).groups), best_grouping(column, 2).sums[(1, 2)], Grouping(((1, 2), (0, 3)), best_grouping(column, 2).sums).shows(column, 2)]
[(1, 2), [(0, 3), (1, 2)], (1, 2), True]
"""

GREATEST = """
>>> from bucketsums.columns import Column
>>> from bucketsums.greatest import Spans, best_spans, fewest_within, greatest_span, least_span, span_profile
>>> column = Column((1, 3, 3, 0))
>>> [greatest_span(column, (0, 2)), least_span(column, 2), span_profile(column), fewest_within(column, 1), best_spans(column, 2).shows(column, 2)]
[3, 2, [3, 2, 0, 0], 3, True]
>>> [Spans((0, 3), (0, 1, 3)).shows(column, 2), Spans((0, 2), (0, 1, 3)).shows(column, 2), Spans((0, 1, 3), ()).shows(column, 3)]
[True, False, True]
"""

BOUNDS = """
>>> from bucketsums.bounds import Ends, capped_ends, possible_sums, reach_ends, sum_ends
>>> from bucketsums.histograms import Histogram
>>> hist = Histogram(4, (0, 2), (4, 3))
>>> [sum_ends(hist, 1, 3), capped_ends(hist, (3, 3), 1, 3), possible_sums(hist, (3, 3), (2, 1), 1, 3), possible_sums(hist, (3, 3), (2, 1), 2, 3)]
[(0, 7), (1, 6), [1, 2, 3, 4, 5, 6], [0, 3]]
>>> [Ends((3, 1, 0, 3), (1, 3, 3, 0)).shows(hist, (3, 3), 1, 3), Ends((4, 0, 0, 3), (1, 3, 3, 0)).shows(hist, (3, 3), 1, 3), reach_ends(hist, (9, 9), 1, 3).shows(hist, (9, 9), 1, 3)]
[True, False, True]
"""

NOTES = """
>>> from bucketsums.notes import Agreeing, Conflict, is_implied, judge_notes, needed_notes, tightest
>>> notes, bad = [(0, 2, 3, 5), (1, 3, 0, 2)], [(0, 2, 3, 5), (0, 1, 0, 0), (1, 2, 0, 2)]
>>> [tightest(3, notes, 0, 1), tightest(3, notes, 2, 3), judge_notes(3, notes).shows(3, notes), Agreeing((1, 2, 0)).shows(3, notes), Agreeing((2, 0, 0)).shows(3, notes)]
[(1, 5), (0, 2), True, True, False]
>>> [Conflict([('most', 1), ('most', 2), ('least', 0)]).shows(2, bad), Conflict([('most', 1), ('cap', 1), ('least', 0)]).shows(2, bad), judge_notes(2, bad).shows(2, bad)]
[True, False, True]
>>> some = [(0, 1, 0, 4), (1, 2, 0, 2), (0, 2, 0, 6)]
>>> [is_implied(2, some, 2), is_implied(2, some, 0), needed_notes(2, some), needed_notes(2, [(0, 1, 0, 9)])]
[True, False, [0, 1], []]
"""

JOINS = """
>>> from bucketsums.columns import Column
>>> from bucketsums.histograms import Histogram
>>> from bucketsums.joins import Joined, join_ends, join_estimate, join_size, reach_join
>>> one, caps, other, late = Histogram(4, (0, 2), (4, 3)), (3, 3), Histogram(4, (0, 2), (2, 2)), (2, 1)
>>> [join_size(Column((1, 3)), Column((2, 0))), join_ends(one, caps, other, late), join_estimate(one, caps, other, late), reach_join(one, caps, other, late).shows(one, caps, other, late)]
[2, (5, 9), (7, 1), True]
>>> [Joined(((3, 1, 3, 0), (0, 2, 1, 1)), ((3, 1, 3, 0), (2, 0, 1, 1))).shows(one, caps, other, late), Joined(((3, 1, 3, 0), (1, 1, 1, 1)), ((3, 1, 3, 0), (2, 0, 1, 1))).shows(one, caps, other, late)]
[True, False]
"""

GRIDS = """
>>> from bucketsums.grids import Bits, Blocked, BoxEnds, box_ends, count_grids, nth_grid, reach_box, zero_one
>>> rows, columns = (2, 1), (1, 2)
>>> [box_ends(rows, columns, (0,), (0,)), count_grids(rows, columns), nth_grid(rows, columns, 0), nth_grid(rows, columns, 1), reach_box(rows, columns, (0,), (1,)).shows(rows, columns, (0,), (1,))]
[(0, 1), 2, ((0, 2), (1, 0)), ((1, 1), (0, 1)), True]
>>> [zero_one(rows, columns).grid, Blocked((0,)).shows((2, 0), (2, 0)), zero_one((2, 0), (2, 0)).shows((2, 0), (2, 0)), Bits(((0, 2), (1, 0))).shows(rows, columns), BoxEnds(((0, 2), (1, 0)), ((1, 1), (0, 1))).shows(rows, columns, (0,), (0,))]
[((1, 1), (0, 1)), True, True, False, True]
"""

ASKS = """
>>> from bucketsums.asks import best_cuts, best_worth, cuts_for_all, whole_ranges
>>> asks = [(0, 2, 3), (2, 4, 2), (1, 4, 4)]
>>> [whole_ranges(6, asks, (0, 1, 4)), [best_worth(6, asks, buckets) for buckets in (1, 2, 3, 4)], best_cuts(6, asks, 3), cuts_for_all(6, asks), cuts_for_all(4, [])]
[[2], [0, 3, 5, 9], [(0, 2, 4)], (0, 1, 2, 4), (0,)]
"""

TEXTS = r"""
>>> from bucketsums.histograms import Histogram
>>> from bucketsums.texts import histogram_text, notes_text, read_histogram, read_notes
>>> hist = Histogram(4, (0, 2), (4, 3))
>>> [histogram_text(hist), read_histogram('0 to 0 has 9\n').totals, notes_text(3, [(0, 2, 3, 5)]), read_notes('values 2\n1 to 1 from 0 up to 9\n')]
['0 to 1 has 4\n2 to 3 has 3\n', (9,), 'values 3\n0 to 1 from 3 up to 5\n', (2, [(1, 2, 0, 9)])]
"""

ABSOLUTE = """
>>> from bucketsums.absolute import Absolute, best_absolute, bucket_error, fewest_buckets, least_error
>>> from bucketsums.columns import Column
>>> column = Column([1, 1, 5, 6])
>>> [bucket_error(column, 0, 4), [least_error(column, buckets) for buckets in (1, 2, 3, 4)], best_absolute(column, 2).cuts, [fewest_buckets(column, error) for error in (0, 1, 8, 9)]]
[9, [9, 1, 0, 0], (0, 2), [3, 2, 2, 1]]
>>> [Absolute((0,), {(1, 1): 0, (1, 2): 0}).shows(Column([4, 4]), 1), Absolute((0,), {(1, 2): 0}).shows(Column([4, 4]), 1), best_absolute(column, 3).shows(column, 3)]
[True, False, True]
"""

COLUMNS_WITH = """
>>> from bucketsums.columns import Column
>>> from bucketsums.columns_with import column_at, count_columns, index_of
>>> from bucketsums.histograms import Histogram
>>> hist = Histogram(3, (0, 2), (3, 1))
>>> [[count_columns(hist, most) for most in (0, 1, 2, 9)], [column_at(hist, 9, index).counts for index in range(4)], index_of(hist, 2, Column([2, 1, 1]))]
[[0, 0, 2, 4], [(0, 3, 1), (1, 2, 1), (2, 1, 1), (3, 0, 1)], 1]
"""

WAVELETS = """
>>> from bucketsums.columns import Column
>>> from bucketsums.wavelets import Kept, coefficients, column_of, keep_best, kept_counts, kept_error, least_lost
>>> column = Column([3, 1, 0, 4])
>>> [coefficients(column), column_of((8, 0, 2, -4)).counts, kept_counts(column, (0, 2)), kept_error(column, (0, 2)), [least_lost(column, many) for many in range(5)]]
[(8, 0, 2, -4), (3, 1, 0, 4), ((3, 1), (1, 1), (2, 1), (2, 1)), (8, 1), [(26, 1), (10, 1), (2, 1), (0, 1), (0, 1)]]
>>> [keep_best(column, 2).places, Kept((0, 3)).shows(column, 2), Kept((0, 2)).shows(column, 2), Kept((0, 2, 3)).shows(column, 3)]
[(0, 3), True, False, True]
"""

SAMPLES = """
>>> from bucketsums.columns import Column
>>> from bucketsums.samples import expected_filled, expected_pairs, guess_filled, sample_ways, seen_chance
>>> column = Column([2, 1, 1])
>>> [seen_chance(column, 0, 2), seen_chance(column, 1, 2), expected_filled(column, 2), expected_pairs(column, 2), sample_ways(column, Column([1, 1, 0])), sample_ways(column, Column([0, 2, 0]))]
[(5, 6), (1, 2), (11, 6), (1, 6), 2, 0]
>>> [guess_filled(4, Column([1, 1, 0])), guess_filled(4, Column([2, 0, 0])), guess_filled(2, Column([1, 1, 0]))]
[(4, 1), (-2, 1), (2, 1)]
"""

RANKS = """
>>> from bucketsums.columns import Column
>>> from bucketsums.ranks import Marks, below_bounds, fewest_ranks, keep_ranks, widest
>>> column = Column([2, 0, 4, 1])
>>> [[fewest_ranks(column, error) for error in (0, 1, 2, 3)], keep_ranks(column, 1).shows(column, 1), Marks((3,), (0,)).shows(column, 3), Marks((1, 4), (0, 3)).shows(column, 1)]
[[7, 3, 2, 1], True, True, False]
>>> [below_bounds(column, (1, 4), 2), below_bounds(column, (1, 4), 1), below_bounds(column, (), 3), widest(column, (1, 4)), widest(column, ())]
[(2, 4), (2, 4), (0, 7), 2, 7]
"""

CROSSING = """
>>> from bucketsums.crossing import Crossed, counters_of, cross_off, crossings, heavy, merge
>>> stream = [1, 2, 1, 3, 1, 3]
>>> [counters_of(stream, 2), crossings(stream, 2), counters_of(stream, 1), crossings(stream, 1), heavy(stream, 2), heavy(stream, 1)]
[{1: 2, 3: 1}, 1, {}, 3, [1], []]
>>> [Crossed({1: 2, 3: 1}, [(0, 1, 3)]).shows(stream, 2), Crossed({1: 2, 3: 1}, [(1, 2, 3)]).shows(stream, 2), cross_off(stream, 1).shows(stream, 1), merge({1: 2, 3: 1}, {2: 4, 3: 2}, 2)]
[True, True, True, {2: 2, 3: 1}]
"""

LIVE = """
>>> from bucketsums.columns import Column
>>> from bucketsums.live import LiveColumn
>>> live = LiveColumn(Column([2, 0, 3]), (0, 1))
>>> [live.add(1).totals, live.split(2).totals, live.join(1).totals, live.remove(0).totals, live.undo(), live.now.counts, live.parted, len(live)]
[(2, 4), (2, 1, 3), (3, 3), (2, 3), ('remove', 0), (2, 1, 3), (0, 2), 3]
"""

HIDING = """
>>> from bucketsums.hiding import Hidden, exposed, fewest_more, hidden_ends, is_exposed, reach_hidden
>>> grid, every = ((1, 2), (3, 0)), ((0, 0), (0, 1), (1, 0), (1, 1))
>>> [hidden_ends(grid, every, (0, 0)), exposed(grid, every), exposed(grid, every[:3]), fewest_more(grid, ((0, 0),), (0, 0)), is_exposed(grid, ((0, 0), (1, 1)), (1, 1))]
[(1, 3), [], [(0, 0), (0, 1), (1, 0)], 3, True]
>>> [Hidden(grid, ((3, 0), (1, 2)), ((1,), (0,)), ((0,), ())).shows(grid, every, (0, 0)), Hidden(grid, ((3, 0), (1, 2)), None, ((0,), ())).shows(grid, every, (0, 0)), reach_hidden(grid, every, (1, 1)).shows(grid, every, (1, 1))]
[True, False, True]
"""

ROUNDING = """
>>> from bucketsums.rounding import Rounded, count_roundings, round_grid
>>> grid = ((1, 2), (3, 0))
>>> [count_roundings(grid, 2), count_roundings(((2, 4),), 2), round_grid(grid, 5).shows(grid, 5), Rounded(((0, 2), (4, 0))).shows(grid, 2), Rounded(((2, 2), (4, 0))).shows(grid, 2)]
[2, 1, True, True, False]
"""

RANKED = """
>>> from bucketsums.histograms import Histogram
>>> from bucketsums.ranked import Ranked, median_values, possible_values, reach_values
>>> hist, caps = Histogram(4, (0, 2), (4, 3)), (3, 3)
>>> [[possible_values(hist, caps, rank) for rank in (0, 2, 3, 4)], median_values(hist, caps), reach_values(hist, caps, 2).shows(hist, caps, 2)]
[[[0], [0, 1], [1], [2, 3]], [1], True]
>>> [Ranked({2: (3, 1, 1, 2), 3: (3, 1, 0, 3)}).shows(hist, caps, 4), Ranked({2: (3, 1, 1, 2)}).shows(hist, caps, 4), Ranked({0: (3, 1, 0, 3), 1: (3, 1, 0, 3)}).shows(hist, caps, 2)]
[True, False, False]
"""

MEANS = """
>>> from bucketsums.means import Ends, at_least, rank_values, reach_both
>>> [at_least(4, 5, 8, 3), at_least(4, 5, 16, 2), at_least(3, 4, 7, 3), [rank_values(4, 5, 8, rank) for rank in range(4)]]
[(0, 2), (4, 4), (1, 2), [(0, 2), (0, 2), (2, 4), (2, 4)]]
>>> [Ends((2, 2, 2, 2), (4, 0, 4, 0)).shows(4, 5, 8, 3), Ends((4, 2, 2, 0), (4, 0, 4, 0)).shows(4, 5, 8, 3), reach_both(4, 5, 8, 3).shows(4, 5, 8, 3)]
[True, False, True]
"""

MOVING = """
>>> from bucketsums.columns import Column
>>> from bucketsums.moving import Moved, farthest_row, fewest_changed, least_steps, move_rows
>>> one, other = Column([3, 0, 1, 1]), Column([1, 2, 2, 0])
>>> [least_steps(one, other), move_rows(one, other).flows, fewest_changed(one, other), farthest_row(one, other)]
[3, (2, 0, -1), 3, 1]
>>> [Moved((2, 0, -1), (0, 1, 1, 0)).shows(one, other), Moved((2, 0, -1), (0, 1, 0, 0)).shows(one, other), move_rows(other, one).shows(other, one)]
[True, False, True]
"""

REFINING = """
>>> from bucketsums.histograms import Histogram
>>> from bucketsums.refining import Clash, Refined, do_agree, refine
>>> one, other = Histogram(4, (0, 2), (5, 3)), Histogram(4, (0, 1, 3), (4, 3, 1))
>>> [refine(one, other).finer.cuts, refine(one, other).finer.totals, do_agree(one, Histogram(4, (0,), (9,)))]
[(0, 1, 2, 3), (4, 1, 2, 1), False]
>>> [Clash(4, 4).shows(one, Histogram(4, (0,), (9,))), Clash(0, 2).shows(one, other), Clash(1, 2).shows(one, Histogram(4, (0, 1), (7, 1)))]
[True, False, True]
"""

MOMENTS = """
>>> from bucketsums.columns import Column
>>> from bucketsums.moments import column_of_sums, fewest_sums, least_apart, power_sums, same_sums
>>> column = Column([1, 0, 2])
>>> [power_sums(column, 4), column_of_sums((3, 4, 8)).counts, [late.counts for late in same_sums(column, 2)], least_apart(column, 2), least_apart(column, 3), fewest_sums(column)]
[(3, 4, 8, 16), (1, 0, 2), [(0, 2, 1), (1, 0, 2)], 3, None, 3]
"""

EVENER = """
>>> from bucketsums.columns import Column
>>> from bucketsums.evener import Evener, Uneven, evenest, fewest_transfers, is_evener, judge_evener
>>> one, other = Column([0, 6, 1]), Column([3, 2, 2])
>>> [fewest_transfers(one, other), is_evener(other, one), Uneven(1).shows(other, one), Uneven(3).shows(other, one), evenest(one)]
[3, False, True, False, (3, 2, 2)]
>>> [Evener([(0, 2), (0, 1), (0, 2)]).shows(one, other), Evener([(0, 1), (0, 1), (0, 1)]).shows(one, other), judge_evener(one, one).transfers]
[True, False, []]
"""


class Examples(unittest.TestCase):
    def run_example(self, name, text):
        example = doctest.DocTestParser().get_doctest(text, {}, name, None, 0)
        said = []
        result = doctest.DocTestRunner(verbose=False).run(example, out=said.append)
        self.assertGreater(result.attempted, 0)
        self.assertEqual(result.failed, 0, "".join(said))

    def test_columns(self):
        self.run_example("columns", COLUMNS)

    def test_histograms(self):
        self.run_example("histograms", HISTOGRAMS)

    def test_squares(self):
        self.run_example("squares", SQUARES)

    def test_greatest(self):
        self.run_example("greatest", GREATEST)

    def test_bounds(self):
        self.run_example("bounds", BOUNDS)

    def test_notes(self):
        self.run_example("notes", NOTES)

    def test_joins(self):
        self.run_example("joins", JOINS)

    def test_grids(self):
        self.run_example("grids", GRIDS)

    def test_asks(self):
        self.run_example("asks", ASKS)

    def test_texts(self):
        self.run_example("texts", TEXTS)

    def test_absolute(self):
        self.run_example("absolute", ABSOLUTE)

    def test_columns_with(self):
        self.run_example("columns_with", COLUMNS_WITH)

    def test_wavelets(self):
        self.run_example("wavelets", WAVELETS)

    def test_samples(self):
        self.run_example("samples", SAMPLES)

    def test_ranks(self):
        self.run_example("ranks", RANKS)

    def test_crossing(self):
        self.run_example("crossing", CROSSING)

    def test_live(self):
        self.run_example("live", LIVE)

    def test_hiding(self):
        self.run_example("hiding", HIDING)

    def test_rounding(self):
        self.run_example("rounding", ROUNDING)

    def test_ranked(self):
        self.run_example("ranked", RANKED)

    def test_means(self):
        self.run_example("means", MEANS)

    def test_moving(self):
        self.run_example("moving", MOVING)

    def test_refining(self):
        self.run_example("refining", REFINING)

    def test_moments(self):
        self.run_example("moments", MOMENTS)

    def test_evener(self):
        self.run_example("evener", EVENER)


if __name__ == "__main__":
    unittest.main()
