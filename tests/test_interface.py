"""Each name of the interface stands in its file, with the arguments that it lists."""
import ast
import importlib
import inspect
import unittest
from pathlib import Path

PACKAGE = Path(__file__).resolve().parent.parent / "bucketsums"

FUNCTIONS = {
    "histograms": {
        "histogram": "column cuts", "caps_of": "column cuts", "fills_of": "column cuts",
        "estimate": "hist first past", "coarser": "hist cuts",
    },
    "squares": {
        "square_error": "column cuts", "best_squares": "column buckets", "least_square": "column buckets",
        "best_grouping": "column groups", "least_grouping": "column groups", "square_profile": "column",
    },
    "greatest": {
        "greatest_span": "column cuts", "best_spans": "column buckets", "least_span": "column buckets",
        "fewest_within": "column span", "span_profile": "column",
    },
    "bounds": {
        "sum_ends": "hist first past", "capped_ends": "hist caps first past",
        "reach_ends": "hist caps first past", "possible_sums": "hist caps fills first past",
    },
    "notes": {
        "judge_notes": "values notes", "tightest": "values notes first past",
        "reach_tightest": "values notes first past", "is_implied": "values notes index",
        "needed_notes": "values notes",
    },
    "joins": {
        "join_size": "one other", "join_ends": "one caps other late", "reach_join": "one caps other late",
        "join_estimate": "one caps other late",
    },
    "grids": {
        "box_ends": "rows columns some others", "reach_box": "rows columns some others",
        "count_grids": "rows columns", "zero_one": "rows columns", "nth_grid": "rows columns number",
    },
    "asks": {
        "whole_ranges": "values asks cuts", "best_worth": "values asks buckets",
        "best_cuts": "values asks buckets", "cuts_for_all": "values asks",
    },
    "texts": {
        "histogram_text": "hist", "notes_text": "values notes", "read_histogram": "text", "read_notes": "text",
    },
    "absolute": {
        "bucket_error": "column first past", "best_absolute": "column buckets",
        "least_error": "column buckets", "fewest_buckets": "column error",
    },
    "columns_with": {
        "count_columns": "hist most", "column_at": "hist most index", "index_of": "hist most column",
    },
    "wavelets": {
        "coefficients": "column", "column_of": "numbers", "kept_counts": "column places",
        "kept_error": "column places", "keep_best": "column many", "least_lost": "column many",
    },
    "samples": {
        "seen_chance": "column value size", "expected_filled": "column size", "expected_pairs": "column size",
        "sample_ways": "column sample", "guess_filled": "rows sample",
    },
    "ranks": {
        "keep_ranks": "column error", "fewest_ranks": "column error", "below_bounds": "column kept value",
        "widest": "column kept",
    },
    "crossing": {
        "cross_off": "stream counters", "counters_of": "stream counters", "crossings": "stream counters",
        "heavy": "stream counters", "merge": "one other counters",
    },
    "hiding": {
        "hidden_ends": "grid hidden cell", "reach_hidden": "grid hidden cell", "is_exposed": "grid hidden cell",
        "exposed": "grid hidden", "fewest_more": "grid hidden cell",
    },
    "rounding": {"round_grid": "grid base", "count_roundings": "grid base"},
    "ranked": {
        "possible_values": "hist caps rank", "reach_values": "hist caps rank", "median_values": "hist caps",
    },
    "means": {
        "at_least": "rows width total value", "reach_both": "rows width total value",
        "rank_values": "rows width total rank",
    },
    "moving": {
        "least_steps": "one other", "move_rows": "one other", "fewest_changed": "one other",
        "farthest_row": "one other",
    },
    "refining": {"refine": "one other", "do_agree": "one other"},
    "moments": {
        "power_sums": "column many", "column_of_sums": "sums", "same_sums": "column many",
        "least_apart": "column many", "fewest_sums": "column",
    },
    "evener": {
        "judge_evener": "one other", "is_evener": "one other", "fewest_transfers": "one other", "evenest": "column",
    },
}
CLASSES = {
    "columns": {
        "Column": {"__init__": "counts", "rows": "", "prefixes": "", "filled": "", "steps": "",
                   "sorted_rows": "", "between": "first past", "__len__": "", "__getitem__": None,
                   "__eq__": None},
    },
    "histograms": {
        "Histogram": {"__init__": "width cuts totals", "buckets": "", "__len__": "", "__eq__": None},
    },
    "squares": {
        "Squares": {"__init__": "cuts sums", "shows": "column buckets", "__eq__": None},
        "Grouping": {"__init__": "groups sums", "shows": "column buckets", "__eq__": None},
    },
    "greatest": {"Spans": {"__init__": "cuts marks", "shows": "column buckets", "__eq__": None}},
    "bounds": {"Ends": {"__init__": "least greatest", "shows": "hist caps first past", "__eq__": None}},
    "notes": {
        "Agreeing": {"__init__": "counts", "shows": "values notes", "__eq__": None},
        "Conflict": {"__init__": "walk", "shows": "values notes", "__eq__": None},
    },
    "joins": {"Joined": {"__init__": "least greatest", "shows": "one caps other late", "__eq__": None}},
    "grids": {
        "BoxEnds": {"__init__": "least greatest", "shows": "rows columns some others", "__eq__": None},
        "Bits": {"__init__": "grid", "shows": "rows columns", "__eq__": None},
        "Blocked": {"__init__": "some", "shows": "rows columns", "__eq__": None},
    },
    "absolute": {"Absolute": {"__init__": "cuts table", "shows": "column buckets", "__eq__": None}},
    "wavelets": {"Kept": {"__init__": "places", "shows": "column many", "__eq__": None}},
    "ranks": {"Marks": {"__init__": "kept far", "shows": "column error", "__eq__": None}},
    "crossing": {"Crossed": {"__init__": "counters groups", "shows": "stream counters", "__eq__": None}},
    "live": {
        "LiveColumn": {"__init__": "column cuts", "__len__": "", "hist": "", "add": "value", "remove": "value",
                       "split": "cut", "join": "cut", "undo": "", "branch": "", "trial": "", "attempt": "work"},
    },
    "hiding": {
        "Hidden": {"__init__": "least greatest below above", "shows": "grid hidden cell", "__eq__": None},
    },
    "rounding": {"Rounded": {"__init__": "grid", "shows": "grid base", "__eq__": None}},
    "ranked": {"Ranked": {"__init__": "columns", "shows": "hist caps rank", "__eq__": None}},
    "means": {"Ends": {"__init__": "least greatest", "shows": "rows width total value", "__eq__": None}},
    "moving": {"Moved": {"__init__": "flows heights", "shows": "one other", "__eq__": None}},
    "refining": {
        "Refined": {"__init__": "finer", "shows": "one other", "__eq__": None},
        "Clash": {"__init__": "first past", "shows": "one other", "__eq__": None},
    },
    "evener": {
        "Evener": {"__init__": "transfers", "shows": "one other", "__eq__": None},
        "Uneven": {"__init__": "many", "shows": "one other", "__eq__": None},
    },
}


def arguments(function):
    """The names of the arguments, separated by blanks."""
    return " ".join(name for name in inspect.signature(function).parameters if name != "self")


class Interface(unittest.TestCase):
    def test_functions(self):
        for module, functions in FUNCTIONS.items():
            here = importlib.import_module(f"bucketsums.{module}")
            for name, wanted in functions.items():
                with self.subTest(module=module, name=name):
                    function = getattr(here, name)
                    self.assertEqual(function.__module__, f"bucketsums.{module}")
                    self.assertTrue(inspect.isfunction(function))
                    self.assertEqual(arguments(function), wanted)

    def test_classes(self):
        for module, classes in CLASSES.items():
            here = importlib.import_module(f"bucketsums.{module}")
            for name, methods in classes.items():
                for method, wanted in methods.items():
                    with self.subTest(module=module, name=name, method=method):
                        self.assertEqual(getattr(here, name).__module__, f"bucketsums.{module}")
                        self.assertIn(method, vars(getattr(here, name)))
                        if wanted is not None:
                            self.assertEqual(arguments(vars(getattr(here, name))[method]), wanted)

    def test_defined_where_they_are_listed(self):
        for module in sorted(set(FUNCTIONS) | set(CLASSES)):
            tree = ast.parse((PACKAGE / f"{module}.py").read_text())
            defined = [node.name for node in tree.body if isinstance(node, (ast.FunctionDef, ast.ClassDef))]
            for name in list(FUNCTIONS.get(module, {})) + list(CLASSES.get(module, {})):
                self.assertEqual(defined.count(name), 1, name)


if __name__ == "__main__":
    unittest.main()
