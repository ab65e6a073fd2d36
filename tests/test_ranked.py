"""Values of ranks: points 1 and 23, the section bucketsums/ranked.py."""
import unittest

from bucketsums.columns import Column
from bucketsums.errors import BadCaps, BadHistogram, BadNumber, NotPossible
from bucketsums.histograms import Histogram, caps_of, histogram
from bucketsums.ranked import Ranked, median_values, possible_values, reach_values
from bucketsums.ranks import Marks
from tests.checking import Case
from tests.plain import NOT_HISTOGRAMS, NOT_INTEGERS, STRANGE, all_counts, columns_of, small_histograms, some_counts

HIST, CAPS = Histogram(4, (0, 2), (4, 3)), (3, 3)
MORE = [(HIST, CAPS), (Histogram(4, (0,), (3,)), (3,)), (Histogram(4, (0,), (6,)), (2,)),
        (Histogram(4, (0, 1), (1, 4)), (1, 3))]

# Nothing of this is caps of two buckets.
NOT_CAPS = STRANGE + (
    (), (3,), (3, 3, 3), [3, 3], (3, -1), (10, 3), (3, 10 ** 30), (True, 3), (3, False), (3, "3"), (None, 3),
    ((3,), 3), ((3, 3),), "33",
)


def value_at(counts, rank):
    """The value of the row with a rank."""
    return [value for value, count in enumerate(counts) for _ in range(count)][rank]


def by_value(columns, rank):
    """For each value that the row with a rank has in some column, these columns."""
    found = {}
    for counts in columns:
        found.setdefault(value_at(counts, rank), []).append(counts)
    return {value: found[value] for value in sorted(found)}


class Answers(Case):
    def test_by_listing_all_columns(self):
        seen = set()
        for hist, caps in small_histograms() + MORE:
            columns, rows = columns_of(hist, caps), sum(hist.totals)
            for rank in range(rows):
                wanted = by_value(columns, rank)
                values = possible_values(hist, caps, rank)
                self.assertEqual((values, type(values)), (list(wanted), list))
                found = reach_values(hist, caps, rank)
                self.assertEqual((list(found.columns), type(found.columns)), (list(wanted), dict))
                for value, counts in found.columns.items():
                    self.assertEqual(type(counts), tuple)
                    self.assertIn(counts, wanted[value])
                self.is_shown(True, found, hist, caps, rank)
                seen.add(len(values))
            if rows > 0:
                self.assertEqual(median_values(hist, caps), list(by_value(columns, (rows - 1) // 2)))
        self.assertEqual(seen, {1, 2, 3, 4})

    def test_caps_of_nine(self):
        for counts in ((1, 0, 2), (0, 0, 9), (5, 5, 5), (9, 9, 9), (3, 4), (1, 0, 0), (9, 0, 1)):
            for cuts in ((0,), (0, 1)):
                hist = histogram(Column(counts), cuts)
                caps = (9,) * len(cuts)
                for rank in range(sum(counts)):
                    wanted = list(by_value(columns_of(hist, caps), rank))
                    self.assertEqual(possible_values(hist, caps, rank), wanted)
                self.assertEqual(median_values(hist, caps), list(by_value(columns_of(hist, caps),
                                                                          (sum(counts) - 1) // 2)))

    def test_long_histograms(self):
        # All counts of one bucket of many values, by the numbers of rows before, at and after a value.
        for counts in some_counts(30, 12, 23, 5):
            column, cuts = Column(counts), (0,)
            hist, caps, rows = histogram(column, cuts), caps_of(column, cuts), sum(counts)
            for rank in range(0, rows, 3):
                wanted = []
                for value in range(len(counts)):
                    left, right = value * caps[0], (len(counts) - value - 1) * caps[0]
                    ways = [1 for before in range(min(rank, left) + 1) for here in range(caps[0] + 1)
                            if before + here > rank and 0 <= rows - before - here <= right]
                    if ways:
                        wanted.append(value)
                self.assertEqual(possible_values(hist, caps, rank), wanted)
                self.assertIn(value_at(counts, rank), wanted)
                found = reach_values(hist, caps, rank)
                self.is_shown(True, found, hist, caps, rank)
                for value, late in found.columns.items():
                    self.assertEqual((value_at(late, rank), sum(late), len(late)), (value, rows, len(counts)))
                    self.assertTrue(0 <= min(late) and max(late) <= caps[0])

    def test_the_first_and_the_last_rank(self):
        hist = Histogram(12, (0, 5), (3, 40))
        self.assertEqual(possible_values(hist, (9, 9), 0), [0, 1, 2, 3, 4])
        self.assertEqual(possible_values(hist, (1, 9), 0), [0, 1, 2])
        self.assertEqual(possible_values(hist, (1, 9), 2), [2, 3, 4])
        self.assertEqual(possible_values(hist, (9, 9), 3), [5, 6, 7])
        self.assertEqual(possible_values(hist, (9, 9), 42), [9, 10, 11])
        self.assertEqual(possible_values(hist, (9, 6), 42), [11])
        self.raises(BadNumber, possible_values, hist, (9, 9), 43)
        self.assertEqual(possible_values(Histogram(1, (0,), (9,)), (9,), 8), [0])
        self.assertEqual(possible_values(Histogram(3, (0, 1, 2), (0, 1, 0)), (0, 1, 0), 0), [1])
        self.assertEqual(possible_values(Histogram(3, (0, 1), (0, 1)), (9, 9), 0), [1, 2])

    def test_middle_rows(self):
        self.assertEqual(median_values(Histogram(2, (0, 1), (1, 1)), (1, 1)), [0])
        self.assertEqual(median_values(Histogram(2, (0, 1), (1, 2)), (9, 9)), [1])
        self.assertEqual(median_values(Histogram(2, (0, 1), (2, 1)), (9, 9)), [0])
        self.assertEqual(median_values(Histogram(2, (0, 1), (2, 2)), (9, 9)), [0])
        self.assertEqual(median_values(Histogram(2, (0,), (1,)), (9,)), [0, 1])


class Certificates(Case):
    def test_all_columns(self):
        shown = [0, 0]
        for hist, caps in small_histograms()[::5] + MORE:
            columns = columns_of(hist, caps)
            for rank in range(0, sum(hist.totals), 2):
                best, wanted = reach_values(hist, caps, rank), by_value(columns, rank)
                for value in wanted:
                    for counts in all_counts(hist.width, 3):
                        right = counts in wanted[value]
                        changed = {late: best.columns[late] for late in reversed(best.columns)}
                        changed[value] = list(counts)
                        shown[right] += 1
                        self.is_shown(right, Ranked(changed), hist, caps, rank)
        self.assertGreater(min(shown), 100)

    def test_a_value_too_many_or_too_few(self):
        for hist, caps in small_histograms()[::3] + [(HIST, CAPS)]:
            for rank in range(sum(hist.totals)):
                best = reach_values(hist, caps, rank).columns
                for value in best:
                    fewer = {late: best[late] for late in best if late != value}
                    self.is_shown(False, Ranked(fewer), hist, caps, rank)
                for value in range(-1, hist.width + 1):
                    if value not in best:
                        for counts in best.values():
                            self.is_shown(False, Ranked({**best, value: counts}), hist, caps, rank)
        self.is_shown(False, Ranked({}), HIST, CAPS, 0)

    def test_changed(self):
        best = {2: (3, 1, 1, 2), 3: (3, 1, 0, 3)}
        self.is_shown(True, Ranked(best), HIST, CAPS, 4)
        self.is_shown(True, Ranked({3: [1, 3, 0, 3], 2: [2, 2, 3, 0]}), HIST, CAPS, 4)
        for counts in ((3, 1, 0, 3), (4, 0, 1, 2), (3, 1, 1, 1), (3, 1, 2, 2), (3, 1, 1, 2, 0), (3, 1, 3), (),
                       (3, True, 1, 2), (3, 1, True, 2), ("3", 1, 1, 2), (3, None, 1, 2), (3, 1, 4, -1), (2, 1, 2, 2)):
            self.is_shown(False, Ranked({2: counts, 3: best[3]}), HIST, CAPS, 4)
        for value in (True, "2", None, (2,), 4, -1, 10 ** 30):
            self.is_shown(False, Ranked({value: best[2], 3: best[3]}), HIST, CAPS, 4)
        self.is_shown(False, Ranked(best), HIST, CAPS, 3)
        self.is_shown(False, Ranked(best), HIST, CAPS, 6)
        self.is_shown(True, Ranked(best), HIST, (9, 9), 4)
        self.is_shown(False, Ranked(best), Histogram(4, (0, 1), (4, 3)), (9, 9), 4)
        # True would be the value 1, False the value 0.
        self.is_shown(True, Ranked({1: (3, 1, 0, 3)}), HIST, CAPS, 3)
        self.is_shown(False, Ranked({True: (3, 1, 0, 3)}), HIST, CAPS, 3)
        self.is_shown(False, Ranked({False: (3, 1, 0, 3)}), HIST, CAPS, 0)

    def test_current_attributes(self):
        found = reach_values(HIST, CAPS, 4)
        right = found.columns
        for item in (None, 3, [(2, (3, 1, 1, 2)), (3, (3, 1, 0, 3))], [2, 3], "23", {}, {2: [3, 1, 1, 2], 3: [3, 1, 0, 3]},
                     {2: None, 3: None}, {2: 3, 3: 3}):
            found.columns = item
            self.is_shown(False, found, HIST, CAPS, 4)
        found.columns = {value: right[value] for value in (3, 2)}
        self.is_shown(True, found, HIST, CAPS, 4)


class Wrong(Case):
    def setUp(self):
        self.calls = (possible_values, reach_values, Ranked({}).shows)

    def test_histograms(self):
        for item in NOT_HISTOGRAMS:
            for call in self.calls:
                self.all_raise(BadHistogram, call, [(item, CAPS, 0), (item, None, None), (item, (0, 0), 99)])
            self.all_raise(BadHistogram, median_values, [(item, CAPS), (item, None)])

    def test_caps(self):
        for item in NOT_CAPS:
            for call in self.calls:
                self.all_raise(BadCaps, call, [(HIST, item, 0), (HIST, item, None), (HIST, item, 7)])
            self.raises(BadCaps, median_values, HIST, item)
            self.raises(BadCaps, median_values, Histogram(4, (0, 2), (0, 0)), item)

    def test_not_possible(self):
        for caps in ((1, 3), (3, 1), (0, 0), (1, 9), (9, 1)):
            for call in self.calls:
                self.all_raise(NotPossible, call, [(HIST, caps, 0), (HIST, caps, None), (HIST, caps, 7)])
            self.raises(NotPossible, median_values, HIST, caps)

    def test_ranks(self):
        for item in NOT_INTEGERS + (-1, 7, 108, 10 ** 30, (), []):
            for call in self.calls:
                self.raises(BadNumber, call, HIST, CAPS, item)
        empty = Histogram(4, (0, 2), (0, 0))
        for item in (0, -1, 1, None, True):
            for call in self.calls:
                self.all_raise(BadNumber, call, [(empty, (0, 0), item), (empty, CAPS, item)])

    def test_no_middle_row(self):
        self.raises(BadNumber, median_values, Histogram(4, (0, 2), (0, 0)), (0, 0))
        self.raises(BadNumber, median_values, Histogram(1, (0,), (0,)), (9,))


class Newness(Case):
    def test_answers_are_new(self):
        first = reach_values(HIST, CAPS, 4)
        self.assertIsNot(reach_values(HIST, CAPS, 4), first)
        self.assertTrue(reach_values(HIST, CAPS, 4) == first)
        first.columns.clear()
        self.is_shown(True, reach_values(HIST, CAPS, 4), HIST, CAPS, 4)
        possible_values(HIST, CAPS, 4).clear()
        median_values(HIST, CAPS).append(5)
        self.assertEqual((possible_values(HIST, CAPS, 4), median_values(HIST, CAPS)), ([2, 3], [1]))
        self.assertEqual((HIST.width, HIST.cuts, HIST.totals), (4, (0, 2), (4, 3)))

    def test_arguments_are_not_kept(self):
        columns = {2: [3, 1, 1, 2], 3: (3, 1, 0, 3)}
        found = Ranked(columns)
        columns[2][0] = 9
        columns[4] = (1,)
        self.assertEqual(found.columns, {2: (3, 1, 1, 2), 3: (3, 1, 0, 3)})
        self.assertEqual(columns, {2: [9, 1, 1, 2], 3: (3, 1, 0, 3), 4: (1,)})

    def test_equality(self):
        found = Ranked({2: (3, 1, 1, 2), 3: (3, 1, 0, 3)})
        self.assertTrue(found == Ranked({3: [3, 1, 0, 3], 2: [3, 1, 1, 2]}))
        self.assertFalse(found != Ranked({3: [3, 1, 0, 3], 2: [3, 1, 1, 2]}))
        self.assert_alone(found, Ranked({2: (3, 1, 1, 2)}), Ranked({2: (3, 1, 1, 2), 3: (3, 1, 1, 2)}), Ranked({}),
                          Marks((2,), (3,)), {2: (3, 1, 1, 2), 3: (3, 1, 0, 3)}, None)


if __name__ == "__main__":
    unittest.main()
