"""What the document promises over the whole program: point 1, for each name of the interface.

One table holds a right call of every function, and how its arguments can be
wrong, in the order in which the document lists the errors.
"""
import copy
import importlib
import types
import unittest

from bucketsums import errors
from bucketsums.absolute import Absolute, best_absolute, bucket_error, fewest_buckets, least_error
from bucketsums.asks import best_cuts, best_worth, cuts_for_all, whole_ranges
from bucketsums.bounds import Ends, capped_ends, possible_sums, reach_ends, sum_ends
from bucketsums.columns import Column
from bucketsums.columns_with import column_at, count_columns, index_of
from bucketsums.crossing import Crossed, counters_of, cross_off, crossings, heavy, merge
from bucketsums.evener import Evener, Uneven, evenest, fewest_transfers, is_evener, judge_evener
from bucketsums.greatest import Spans, best_spans, fewest_within, greatest_span, least_span, span_profile
from bucketsums.grids import Bits, Blocked, BoxEnds, box_ends, count_grids, nth_grid, reach_box, zero_one
from bucketsums.hiding import Hidden, exposed, fewest_more, hidden_ends, is_exposed, reach_hidden
from bucketsums.histograms import Histogram, caps_of, coarser, estimate, fills_of, histogram
from bucketsums.joins import Joined, join_ends, join_estimate, join_size, reach_join
from bucketsums.live import LiveColumn
from bucketsums.means import Ends as MeanEnds
from bucketsums.means import at_least, rank_values, reach_both
from bucketsums.moments import column_of_sums, fewest_sums, least_apart, power_sums, same_sums
from bucketsums.moving import Moved, farthest_row, fewest_changed, least_steps, move_rows
from bucketsums.notes import (
    Agreeing, Conflict, is_implied, judge_notes, needed_notes, reach_tightest, tightest)
from bucketsums.ranked import Ranked, median_values, possible_values, reach_values
from bucketsums.ranks import Marks, below_bounds, fewest_ranks, keep_ranks, widest
from bucketsums.refining import Clash, Refined, do_agree, refine
from bucketsums.rounding import Rounded, count_roundings, round_grid
from bucketsums.samples import expected_filled, expected_pairs, guess_filled, sample_ways, seen_chance
from bucketsums.squares import (
    Grouping, Squares, best_grouping, best_squares, least_grouping, least_square, square_error, square_profile)
from bucketsums.texts import histogram_text, notes_text, read_histogram, read_notes
from bucketsums.wavelets import Kept, coefficients, column_of, keep_best, kept_counts, kept_error, least_lost
from tests.checking import Case
from tests.test_interface import CLASSES, FUNCTIONS

COLUMN, LATE, LONG = Column((1, 3, 3, 0)), Column((2, 2, 2, 1)), Column((1,) * 6)
HIST, OTHER, WIDE = Histogram(4, (0, 2), (4, 3)), Histogram(4, (0, 2), (2, 2)), Histogram(5, (0, 2), (4, 3))
CAPS = (3, 3)
NOTES, BAD = [(0, 2, 3, 5), (1, 3, 0, 2)], [(0, 2, 3, 5), (0, 1, 0, 0), (1, 2, 0, 2)]
ASKS = [(0, 2, 3), (1, 4, 4)]
GRID, HIDDEN = ((1, 2), (3, 1)), ((0, 0), (0, 1), (1, 0), (1, 1))
STREAM = [1, 2, 1, 3, 1, 0]

# What is wrong in the place of an argument, whatever it should be.
COLUMN_FIRST = (0, None, errors.BadColumn)
HIST_FIRST = (0, None, errors.BadHistogram)
CAPS_SECOND = [HIST_FIRST, (1, None, errors.BadCaps), (1, (0, 0), errors.NotPossible)]
NUMBER = errors.BadNumber
BOX = [(0, None, errors.BadTotals), (1, None, errors.BadTotals), (2, None, errors.BadPlaces),
       (3, None, errors.BadPlaces)]
CELL = [(0, None, errors.BadTotals), (1, None, errors.BadPlaces), (2, None, errors.BadPlaces)]
JOIN = [HIST_FIRST, (1, None, errors.BadCaps), (1, (0, 0), errors.NotPossible), (2, None, errors.BadHistogram),
        (3, None, errors.BadCaps), (3, (0, 0), errors.NotPossible)]
TWO_COLUMNS = [COLUMN_FIRST, (1, None, errors.BadColumn), (1, Column((7,)), errors.Unlike)]
TWO_HISTOGRAMS = [HIST_FIRST, (1, None, errors.BadHistogram), (1, WIDE, errors.Unlike)]
SOME_NOTES = [(0, None, NUMBER), (1, None, errors.BadNotes)]
POSSIBLE_NOTES = SOME_NOTES + [(1, BAD, errors.NotPossible)]
SOME_ASKS = [(0, None, NUMBER), (1, None, errors.BadAsks)]
SOME_STREAM = [(0, None, errors.BadStream), (1, None, NUMBER)]
SHORT = [COLUMN_FIRST, (0, LONG, errors.TooLarge)]
ROWS = [(0, None, NUMBER), (1, None, NUMBER), (2, None, errors.BadSum)]


def buckets(*calls):
    """Calls with a column and a number of buckets."""
    return [(call, (COLUMN, 2), [COLUMN_FIRST, (1, None, NUMBER)]) for call in calls]


CALLS = [
    (Column, ([1, 2],), [(0, None, errors.BadCounts)]),
    (COLUMN.between, (1, 3), [(0, None, errors.BadRange), (1, None, errors.BadRange)]),
    (Histogram, (4, (0, 2), (4, 3)), [(0, None, errors.BadHistogram), (1, None, errors.BadHistogram),
                                      (2, None, errors.BadHistogram)]),
    (estimate, (HIST, 1, 3), [HIST_FIRST, (1, None, errors.BadRange), (2, None, errors.BadRange)]),
    (coarser, (HIST, (0, 2)), [HIST_FIRST, (1, None, errors.BadCuts)]),
    (square_profile, (COLUMN,), [COLUMN_FIRST]),
    (span_profile, (COLUMN,), [COLUMN_FIRST]),
    (fewest_within, (COLUMN, 1), [COLUMN_FIRST, (1, None, NUMBER)]),
    (sum_ends, (HIST, 1, 3), [HIST_FIRST, (1, None, errors.BadRange), (2, None, errors.BadRange)]),
    (possible_sums, (HIST, CAPS, (2, 1), 1, 3), CAPS_SECOND + [
        (2, None, errors.BadFills), (2, (1, 1), errors.NotPossible), (3, None, errors.BadRange),
        (4, None, errors.BadRange)]),
    (is_implied, (3, NOTES, 1), POSSIBLE_NOTES + [(2, None, errors.BadIndex)]),
    (needed_notes, (3, NOTES), POSSIBLE_NOTES),
    (notes_text, (3, NOTES), SOME_NOTES),
    (judge_notes, (3, NOTES), SOME_NOTES),
    (judge_notes, (2, BAD), SOME_NOTES),
    (judge_notes(3, NOTES).shows, (3, NOTES), SOME_NOTES),
    (judge_notes(2, BAD).shows, (2, BAD), SOME_NOTES),
    (join_size, (COLUMN, LATE), TWO_COLUMNS),
    (sample_ways, (COLUMN, LATE), TWO_COLUMNS),
    (nth_grid, ((2, 1), (1, 2), 1), BOX[:2] + [(2, None, errors.BadIndex)]),
    (whole_ranges, (6, ASKS, (0, 1, 4)), SOME_ASKS + [(2, None, errors.BadCuts)]),
    (best_worth, (6, ASKS, 3), SOME_ASKS + [(2, None, NUMBER)]),
    (best_cuts, (6, ASKS, 3), SOME_ASKS + [(2, None, NUMBER)]),
    (cuts_for_all, (6, ASKS), SOME_ASKS),
    (histogram_text, (HIST,), [HIST_FIRST]),
    (read_histogram, ("0 to 1 has 4\n",), [(0, None, errors.BadText)]),
    (read_notes, ("values 2\n1 to 1 from 0 up to 9\n",), [(0, None, errors.BadText)]),
    (bucket_error, (COLUMN, 1, 3), [COLUMN_FIRST, (1, None, errors.BadRange), (2, None, errors.BadRange)]),
    (fewest_buckets, (COLUMN, 1), [COLUMN_FIRST, (1, None, NUMBER)]),
    (count_columns, (HIST, 5), [HIST_FIRST, (1, None, NUMBER)]),
    (column_at, (HIST, 5, 1), [HIST_FIRST, (1, None, NUMBER), (2, None, errors.BadIndex)]),
    (index_of, (HIST, 5, COLUMN), [HIST_FIRST, (1, None, NUMBER), (2, None, errors.BadColumn),
                                   (2, LONG, errors.Unlike)]),
    (coefficients, (COLUMN,), SHORT),
    (column_of, ([8, 0, 2, -4],), [(0, None, errors.BadCoefficients)]),
    (kept_counts, (COLUMN, (0, 2)), SHORT + [(1, None, errors.BadPlaces)]),
    (kept_error, (COLUMN, (0, 2)), SHORT + [(1, None, errors.BadPlaces)]),
    (keep_best, (COLUMN, 2), SHORT + [(1, None, NUMBER)]),
    (least_lost, (COLUMN, 2), SHORT + [(1, None, NUMBER)]),
    (keep_best(COLUMN, 2).shows, (COLUMN, 2), SHORT + [(1, None, NUMBER)]),
    (seen_chance, (COLUMN, 1, 2), [COLUMN_FIRST, (2, None, NUMBER), (1, None, errors.BadValue)]),
    (expected_filled, (COLUMN, 2), [COLUMN_FIRST, (1, None, NUMBER)]),
    (expected_pairs, (COLUMN, 2), [COLUMN_FIRST, (1, None, NUMBER)]),
    (guess_filled, (9, COLUMN), [(1, None, errors.BadColumn), (0, None, NUMBER)]),
    (keep_ranks, (COLUMN, 1), [COLUMN_FIRST, (1, None, NUMBER)]),
    (fewest_ranks, (COLUMN, 1), [COLUMN_FIRST, (1, None, NUMBER)]),
    (keep_ranks(COLUMN, 1).shows, (COLUMN, 1), [COLUMN_FIRST, (1, None, NUMBER)]),
    (below_bounds, (COLUMN, (1, 4), 2), [COLUMN_FIRST, (1, None, errors.BadPlaces), (2, None, errors.BadValue)]),
    (widest, (COLUMN, (1, 4)), [COLUMN_FIRST, (1, None, errors.BadPlaces)]),
    (merge, ({1: 2, 3: 1}, {2: 4, 0: 2}, 2), [(2, None, NUMBER), (0, None, errors.BadCounters),
                                              (1, None, errors.BadCounters)]),
    (LiveColumn, (COLUMN, (0, 2)), [COLUMN_FIRST, (1, None, errors.BadCuts)]),
    (LiveColumn(COLUMN, (0, 2)).add, (1,), [(0, None, errors.BadValue), (0, 4, errors.BadValue)]),
    (LiveColumn(COLUMN, (0, 2)).remove, (1,), [(0, None, errors.BadValue), (0, 3, errors.NotPossible)]),
    (LiveColumn(COLUMN, (0, 2)).split, (1,), [(0, None, errors.BadValue), (0, 0, errors.NotPossible)]),
    (LiveColumn(COLUMN, (0, 1)).join, (1,), [(0, None, errors.BadValue), (0, 0, errors.NotPossible)]),
    (exposed, (GRID, HIDDEN[:3]), CELL[:2]),
    (fewest_more, (GRID, HIDDEN[:2], (0, 1)), CELL),
    (median_values, (HIST, CAPS), CAPS_SECOND),
    (rank_values, (4, 5, 8, 1), ROWS + [(3, None, NUMBER)]),
    (power_sums, (COLUMN, 3), [COLUMN_FIRST, (1, None, NUMBER)]),
    (column_of_sums, ((3, 4, 8),), [(0, None, errors.BadSums)]),
    (same_sums, (COLUMN, 2), [COLUMN_FIRST, (1, None, NUMBER), (0, LONG, errors.TooLarge)]),
    (least_apart, (COLUMN, 2), [COLUMN_FIRST, (1, None, NUMBER), (0, LONG, errors.TooLarge)]),
    (fewest_sums, (COLUMN,), SHORT),
    (evenest, (COLUMN,), [COLUMN_FIRST]),
]
CALLS += [(call, (COLUMN, (0, 2)), [COLUMN_FIRST, (1, None, errors.BadCuts)])
          for call in (histogram, caps_of, fills_of, square_error, greatest_span)]
CALLS += buckets(best_squares, least_square, best_squares(COLUMN, 2).shows, best_grouping, least_grouping,
                 best_grouping(COLUMN, 2).shows, best_spans, least_span, best_spans(COLUMN, 2).shows, best_absolute,
                 least_error, best_absolute(COLUMN, 2).shows)
CALLS += [(call, (HIST, CAPS, 1, 3), CAPS_SECOND + [(2, None, errors.BadRange), (3, None, errors.BadRange)])
          for call in (capped_ends, reach_ends, reach_ends(HIST, CAPS, 1, 3).shows)]
CALLS += [(call, (3, NOTES, 1, 3), POSSIBLE_NOTES + [(2, None, errors.BadRange), (3, None, errors.BadRange)])
          for call in (tightest, reach_tightest)]
CALLS += [(call, (HIST, CAPS, OTHER, (2, 1)), JOIN + [(2, WIDE, errors.Unlike)])
          for call in (join_ends, reach_join, join_estimate, reach_join(HIST, CAPS, OTHER, (2, 1)).shows)]
CALLS += [(call, ((2, 1), (1, 2), (0,), (1,)), BOX)
          for call in (box_ends, reach_box, reach_box((2, 1), (1, 2), (0,), (1,)).shows)]
CALLS += [(call, ((2, 1), (1, 2)), BOX[:2])
          for call in (count_grids, zero_one, zero_one((2, 1), (1, 2)).shows, zero_one((2, 0), (1, 1)).shows)]
CALLS += [(call, ((2, 0), (2, 0)), BOX[:2]) for call in (zero_one, zero_one((2, 0), (2, 0)).shows)]
CALLS += [(call, (STREAM, 2), SOME_STREAM)
          for call in (cross_off, counters_of, crossings, heavy, cross_off(STREAM, 2).shows)]
CALLS += [(call, (GRID, HIDDEN[:3], (0, 1)), CELL)
          for call in (hidden_ends, reach_hidden, is_exposed, reach_hidden(GRID, HIDDEN[:3], (0, 1)).shows)]
CALLS += [(call, (GRID, 2), [CELL[0], (1, None, NUMBER)])
          for call in (round_grid, count_roundings, round_grid(GRID, 2).shows)]
CALLS += [(call, (HIST, CAPS, 1), CAPS_SECOND + [(2, None, NUMBER)])
          for call in (possible_values, reach_values, reach_values(HIST, CAPS, 1).shows)]
CALLS += [(call, (4, 5, 8, 1), ROWS + [(3, None, errors.BadValue)])
          for call in (at_least, reach_both, reach_both(4, 5, 8, 1).shows)]
CALLS += [(call, (COLUMN, LATE), TWO_COLUMNS)
          for call in (least_steps, move_rows, fewest_changed, farthest_row, move_rows(COLUMN, LATE).shows,
                       judge_evener, is_evener, fewest_transfers, judge_evener(COLUMN, LATE).shows,
                       Uneven(1).shows)]
CALLS += [(judge_evener, (LATE, COLUMN), TWO_COLUMNS)]
CALLS += [(call, (HIST, other), TWO_HISTOGRAMS)
          for other in (Histogram(4, (0, 1, 3), (3, 3, 1)), Histogram(4, (0,), (8,)))
          for call in (refine, do_agree, refine(HIST, other).shows)]

# For each class the same attributes, as far as classes can have the same ones.
PAIR, GRIDS = ((0,), (0,)), (((0,),), ((0,),))
OBJECTS = [
    Column((0,)), Histogram(1, (0,), (0,)), Agreeing((0,)), Blocked((0,)), Kept((0,)), Conflict([]), Evener([]),
    Spans(*PAIR), Ends(*PAIR), MeanEnds(*PAIR), Marks(*PAIR), Moved(*PAIR), Clash(*PAIR), Joined(*GRIDS),
    BoxEnds(*GRIDS), Hidden(GRIDS[0], GRIDS[1], None, None), Bits(((0,),)), Rounded(((0,),)), Squares((0,), {}),
    Absolute((0,), {}), Grouping(((0,),), {}), Crossed({}, [(0,)]), Ranked({}), Refined((0,)), Uneven((0,)),
    LiveColumn(Column((0,)), (0,)),
]


def changed_integers(item):
    """The item with True or False in the place of one of its integers, once for each of them."""
    if isinstance(item, int):
        return [item == 1, item != 1]
    if isinstance(item, dict):
        others = [({late: item[late] for late in item if late != key}, key) for key in item]
        found = [{**rest, bool(key): item[key]} for rest, key in others if bool(key) not in rest]
        return found + [{**item, key: True} for key in item]
    if isinstance(item, (list, tuple)):
        found = []
        for at, inner in enumerate(item):
            for late in changed_integers(inner):
                found.append(item[:at] + type(item)([late]) + item[at + 1:])
        return found
    return []


def parts_of(item):
    """The lists, dicts and objects with a method `shows` in an answer."""
    found = [item] if isinstance(item, (list, dict)) or hasattr(item, "shows") else []
    inner = []
    if isinstance(item, (list, tuple)):
        inner = list(item)
    elif isinstance(item, dict):
        inner = list(item.values())
    elif hasattr(item, "shows"):
        inner = list(vars(item).values())
    for one in inner:
        found += parts_of(one)
    return found


def replaced(args, at, item):
    return args[:at] + (item,) + args[at + 1:]


class Wrong(Case):
    def test_every_name_is_called(self):
        called = {call.__qualname__ for call, _, _ in CALLS}
        for module, functions in FUNCTIONS.items():
            self.assertLessEqual(set(functions), called, module)
        for module, classes in CLASSES.items():
            for name in classes:
                kind = getattr(importlib.import_module(f"bucketsums.{module}"), name)
                self.assertIn(kind, [type(item) for item in OBJECTS])
                if hasattr(kind, "shows"):
                    self.assertIn(f"{name}.shows", called | {"Blocked.shows"})

    def test_each_argument_by_itself(self):
        for call, args, checks in CALLS:
            for at, wrong, error in checks:
                self.raises(error, call, *replaced(args, at, wrong))

    def test_two_wrong_arguments(self):
        for call, args, checks in CALLS:
            for place, (at, wrong, error) in enumerate(checks):
                for late, other, _ in checks[place + 1:]:
                    if late != at:
                        self.raises(error, call, *replaced(replaced(args, at, wrong), late, other))

    def test_everything_of_another_kind(self):
        things = (None, "1", b"1", {1}, (), len, object(), [None], (None,), {None: None}, ((),), [[]], range(3), 1j)
        for call, args, checks in CALLS:
            for at in range(len(args)):
                first = [error for place, _, error in checks if place == at][0]
                for thing in things:
                    # A group of a right kind without anything in it can be right, too.
                    if not (isinstance(thing, tuple) and len(thing) == 0):
                        self.raises(first, call, *replaced(args, at, thing))

    def test_booleans_are_not_integers(self):
        many = 0
        for call, args, checks in CALLS:
            for at, item in enumerate(args):
                first = [error for place, _, error in checks if place == at][0]
                for late in changed_integers(item):
                    many += 1
                    self.raises(first, call, *replaced(args, at, late))
        self.assertGreater(many, 500)

    def test_all_errors_of_the_package(self):
        for call, args, checks in CALLS:
            for at, wrong, error in checks:
                with self.assertRaises(ValueError) as caught:
                    call(*replaced(args, at, wrong))
                self.assertIsInstance(caught.exception, errors.SumError)
                self.assertEqual(type(caught.exception).__bases__, (errors.SumError,))


class Newness(Case):
    def states(self):
        """The calls whose answers are the same each time; the others change a live column."""
        return [(call, args) for call, args, _ in CALLS if not isinstance(getattr(call, "__self__", None), LiveColumn)]

    def test_arguments_are_not_changed(self):
        for call, args in self.states():
            before = copy.deepcopy(args)
            call(*args)
            self.assertEqual(args, before, call)

    def test_answers_are_new(self):
        for call, args in self.states():
            one, other = call(*args), call(*args)
            if not isinstance(one, LiveColumn):
                self.assertTrue(one == other, call)
            known = [id(part) for part in parts_of(one) + parts_of(list(args))]
            for part in parts_of(other):
                self.assertNotIn(id(part), known, call)

    def test_changes_to_an_answer_change_nothing(self):
        for call, args in self.states():
            wanted = copy.deepcopy(call(*args))
            for part in parts_of(call(*args)):
                if isinstance(part, (list, dict)):
                    part.clear()
            if not isinstance(wanted, LiveColumn):
                self.assertTrue(call(*args) == wanted, call)

    def test_lists_of_columns_and_histograms(self):
        for call in (COLUMN.prefixes, COLUMN.filled, COLUMN.sorted_rows, HIST.buckets):
            wanted = list(call())
            call().clear()
            self.assertEqual(call(), wanted)
            self.assertIsNot(call(), call())

    def test_certificates_are_shown(self):
        for call, args in self.states():
            found = call(*args)
            if hasattr(found, "shows"):
                self.is_shown(True, found, *args)


class Equality(Case):
    def test_other_classes(self):
        for at, one in enumerate(OBJECTS):
            for late, other in enumerate(OBJECTS):
                self.assertIs(one == other, at == late, (one, other))
                self.assertIs(one != other, at != late, (one, other))

    def test_other_things(self):
        for one in OBJECTS:
            like = types.SimpleNamespace(**vars(one))
            values = list(vars(one).values())
            for other in [like, None, 0, "", (), [], {}, type(one)] + values + [tuple(values), values, vars(one)]:
                self.assertIs(one == other, False)
                self.assertIs(one != other, True)

    def test_the_same_class(self):
        for one in OBJECTS:
            other = copy.copy(one)
            if not isinstance(one, LiveColumn):
                self.assertIs(one == other, True)
                self.assertIs(one != other, False)
                for name in vars(one):
                    changed = copy.copy(one)
                    setattr(changed, name, ("other",))
                    self.assertIs(one == changed, False, (one, name))
                    self.assertIs(one != changed, True)

    def test_no_class_is_below_another_one(self):
        for one in OBJECTS:
            self.assertEqual(type(one).__bases__, (object,))


if __name__ == "__main__":
    unittest.main()
