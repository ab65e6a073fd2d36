"""Wavelets: points 1 and 14, the section bucketsums/wavelets.py."""
import random
import unittest
from fractions import Fraction
from itertools import combinations

from bucketsums.columns import Column
from bucketsums.crossing import Crossed
from bucketsums.errors import BadCoefficients, BadColumn, BadNumber, BadPlaces, TooLarge
from bucketsums.wavelets import Kept, coefficients, column_of, keep_best, kept_counts, kept_error, least_lost
from tests.checking import Case
from tests.plain import NOT_COLUMNS, NOT_INTEGERS, STRANGE, all_counts, all_subsets, pair_of

WIDTHS = (1, 2, 4, 8)

# Nothing of this is places of four coefficients.
NOT_PLACES = STRANGE + (
    [], [0], [0, 1], (4,), (0, 4), (-1,), (-1, 0), (1, 0), (0, 0), (3, 3), (0, 1, 2, 3, 4), (True,), (False,),
    (0, True), (False, 1), ("0",), (None,), ((0,),), (0, (1,)), ([0],), (0, None), (2, 10 ** 30),
)


def some_columns():
    """Counts of each width, the edges among them."""
    source, found = random.Random(14), []
    for width in WIDTHS:
        found += [(0,) * width, (9,) * width, tuple(9 * (at % 2) for at in range(width)), tuple(range(width))]
        found += [tuple(source.randint(0, 9) for _ in range(width)) for _ in range(6)]
    return found


COUNTS = some_columns()


def block_of(width, place):
    """The values of the block of a coefficient, as the document tells it."""
    blocks, level = [list(range(width))], [list(range(width))]
    while len(level[0]) > 1:
        blocks += level
        level = [half for block in level for half in (block[:len(block) // 2], block[len(block) // 2:])]
    return blocks[place]


def plain_coefficients(counts):
    """The coefficients, by adding counts."""
    found = [sum(counts)]
    for place in range(1, len(counts)):
        block = block_of(len(counts), place)
        half = len(block) // 2
        found.append(sum(counts[at] for at in block[:half]) - sum(counts[at] for at in block[half:]))
    return tuple(found)


def plain_counts(counts, places):
    """The counts by some of the coefficients, as the document tells it."""
    numbers, width = plain_coefficients(counts), len(counts)
    found = [Fraction(numbers[0] if 0 in places else 0, width)] * width
    for place in places:
        if place > 0:
            block = block_of(width, place)
            for at in block:
                sign = 1 if at in block[:len(block) // 2] else -1
                found[at] += sign * Fraction(numbers[place], len(block))
    return found


def plain_error(counts, places):
    """The squared error, count by count."""
    return sum(((one - other) ** 2 for one, other in zip(plain_counts(counts, places), counts)), Fraction(0))


def best_errors(counts):
    """The least squared error for each number of places, by trying all sets of places."""
    return [min(plain_error(counts, places) for places in combinations(range(len(counts)), many))
            for many in range(len(counts) + 1)]


class Answers(Case):
    def test_blocks(self):
        self.assertEqual([block_of(4, place) for place in range(4)], [[0, 1, 2, 3], [0, 1, 2, 3], [0, 1], [2, 3]])
        self.assertEqual(block_of(8, 5), [2, 3])

    def test_coefficients_by_adding_counts(self):
        for counts in COUNTS:
            found = coefficients(Column(counts))
            self.assertEqual(found, plain_coefficients(counts))
            self.assertIs(type(found), tuple)
        self.assertEqual(coefficients(Column((1, 2, 3, 4, 5, 6, 7, 9))), (37, -17, -4, -5, -1, -1, -1, -2))

    def test_column_of(self):
        for counts in COUNTS:
            numbers = plain_coefficients(counts)
            self.assertEqual(column_of(numbers).counts, counts)
            self.assertEqual(column_of(list(numbers)).counts, counts)
            self.assertIs(type(column_of(numbers)), Column)

    def test_column_of_by_listing_all_columns(self):
        known = {plain_coefficients(counts): counts for counts in all_counts(2, 9)}
        for rows in range(-1, 20):
            for less in range(-10, 11):
                if (rows, less) in known:
                    self.assertEqual(column_of((rows, less)).counts, known[rows, less])
                else:
                    self.raises(BadCoefficients, column_of, (rows, less))
                    self.raises(BadCoefficients, column_of, [rows, less])

    def test_counts_and_errors_by_the_coefficients(self):
        for counts in COUNTS:
            width, column = len(counts), Column(counts)
            for places in all_subsets(width)[::1 if width < 8 else 5]:
                found = kept_counts(column, places)
                self.assertIs(type(found), tuple)
                self.assertEqual(found, tuple(pair_of(count) for count in plain_counts(counts, places)))
                self.assertEqual(kept_error(column, places), pair_of(plain_error(counts, places)))
            every = tuple(range(width))
            self.assertEqual(kept_counts(column, every), tuple((count, 1) for count in counts))
            self.assertEqual(kept_error(column, every), (0, 1))
            self.assertEqual(kept_counts(column, ()), ((0, 1),) * width)
            self.assertEqual(kept_error(column, ()), (sum(count * count for count in counts), 1))

    def test_best_places_by_trying_all_sets(self):
        for counts in COUNTS:
            column, errors = Column(counts), best_errors(counts)
            for many, error in enumerate(errors):
                found = keep_best(column, many)
                self.assertIn(found.places, list(combinations(range(len(counts)), many)))
                self.assertEqual(plain_error(counts, found.places), error)
                self.assertEqual(least_lost(column, many), pair_of(error))
                self.is_shown(True, found, column, many)

    def test_fractions_below_zero(self):
        self.assertEqual(kept_counts(Column((0, 0, 0, 9)), (1, 3)), ((-9, 4), (-9, 4), (-9, 4), (27, 4)))
        self.assertEqual(kept_counts(Column((1, 0, 0, 0)), (0,)), ((1, 4),) * 4)
        self.assertEqual(kept_error(Column((1, 0, 0, 0)), (0,)), (3, 4))


class Certificates(Case):
    def test_every_right_places_and_no_others(self):
        for counts in COUNTS:
            column, errors = Column(counts), best_errors(counts)
            for places in all_subsets(len(counts))[::1 if len(counts) < 8 else 3]:
                for many in {len(places), 0, len(counts)}:
                    right = len(places) == many and plain_error(counts, places) == errors[many]
                    self.is_shown(right, Kept(list(places)), column, many)

    def test_ties(self):
        column = Column((4, 0, 4, 0))
        for places in ((0, 2), (0, 3)):
            self.is_shown(True, Kept(places), column, 2)
        self.is_shown(False, Kept((2, 3)), column, 2)
        self.is_shown(False, Kept((0, 1)), column, 2)
        for places in all_subsets(4):
            self.is_shown(True, Kept(places), Column((0,) * 4), len(places))

    def test_changed_places(self):
        column = Column((3, 1, 0, 4))
        self.is_shown(True, Kept((0, 3)), column, 2)
        for places in ((), (0,), (3,), (3, 0), (0, 0), (0, 3, 3), (0, 2, 3), (0, 4), (-4, 3), (-1, 0), (False, 3),
                       (0, "3"), (0, None), (0, 2), (1, 3), ((0, 3),), (0, 1, 3)):
            self.is_shown(False, Kept(places), column, 2)
        self.is_shown(True, Kept((0, 1)), Column((3, 1)), 2)
        self.is_shown(False, Kept((0, True)), Column((3, 1)), 2)
        self.is_shown(True, Kept(()), column, 0)
        self.is_shown(False, Kept((0,)), column, 0)

    def test_current_attributes(self):
        column = Column((3, 1, 0, 4))
        found = keep_best(column, 2)
        for places in ([0, 3], None, 3, "03", {0: 3}, (0, 2), (3, 0), ()):
            found.places = places
            self.is_shown(False, found, column, 2)
        found.places = (0, 3)
        self.is_shown(True, found, column, 2)


class Wrong(Case):
    def setUp(self):
        self.column = Column((3, 1, 0, 4))
        self.by_places = (kept_counts, kept_error)
        self.by_number = (keep_best, least_lost, Kept(()).shows)

    def test_columns(self):
        for item in NOT_COLUMNS:
            self.raises(BadColumn, coefficients, item)
            for call in self.by_places + self.by_number:
                self.all_raise(BadColumn, call, [(item, ()), (item, 0), (item, None)])

    def test_numbers_of_values(self):
        for width in (3, 5, 6, 7, 9, 10, 11, 12):
            column = Column((1,) * width)
            self.raises(TooLarge, coefficients, column)
            for call in self.by_places:
                self.all_raise(TooLarge, call, [(column, ()), (column, (0,)), (column, None), (column, (99,))])
            for call in self.by_number:
                self.all_raise(TooLarge, call, [(column, 0), (column, width), (column, None), (column, -1)])

    def test_places(self):
        for item in NOT_PLACES:
            for call in self.by_places:
                self.raises(BadPlaces, call, self.column, item)
        for call in self.by_places:
            self.raises(BadPlaces, call, Column((1,)), (1,))
            self.raises(BadPlaces, call, Column((1, 2)), (0, 2))

    def test_numbers(self):
        for item in NOT_INTEGERS + (-1, 5, 8, 10 ** 30, (), []):
            for call in self.by_number:
                self.raises(BadNumber, call, self.column, item)
        for call in self.by_number:
            self.raises(BadNumber, call, Column((1,)), 2)

    def test_coefficients(self):
        wrong = list(STRANGE)
        wrong += [(), [], (1, 1, 1), (0,) * 3, (0,) * 5, (0,) * 6, (0,) * 7, (0,) * 9, (0,) * 16, {0: 1},
                  (-1,), (10,), (10 ** 30,), (1, 0), (0, 1), (2, 4), (19, 1), (20, 0), (10, 10), (-1, 1),
                  (8, 0, 2, -3), (8, 0, 3, -4), (8, 1, 2, -4), (8, 0, 6, -4), (7, 0, 2, -4), (8, 0, 2, 6),
                  (40, 0, 0, 0), (2, 2, 0, 2), (1, 1, 1, 1), (8, 0, 2, -4, 0, 0, 0, 0), Column((8, 0)),
                  [[8, 0, 2, -4]], ((8,), 0, 2, -4), (9, 1, 10 ** 40, 0)]
        for item in wrong:
            self.raises(BadCoefficients, column_of, item)
        for item in NOT_INTEGERS:
            self.all_raise(BadCoefficients, column_of, [((item,),), ([item],), ((8, item, 2, -4),), ((item, 0),)])
        self.raises(BadCoefficients, column_of, (2, False))
        self.raises(BadCoefficients, column_of, (True, 1))


class Newness(Case):
    def test_answers_are_new(self):
        column = Column((3, 1, 0, 4))
        self.assertIsNot(keep_best(column, 2), keep_best(column, 2))
        self.assertTrue(keep_best(column, 2) == keep_best(column, 2))
        self.assertIsNot(column_of((8, 0, 2, -4)), column_of((8, 0, 2, -4)))
        self.assertEqual(column.counts, (3, 1, 0, 4))

    def test_arguments_are_not_kept(self):
        places, numbers = [0, 3], [8, 0, 2, -4]
        found, column = Kept(places), column_of(numbers)
        places.append(1)
        numbers.clear()
        self.assertEqual((found.places, column.counts), ((0, 3), (3, 1, 0, 4)))
        self.assertEqual((places, numbers), ([0, 3, 1], []))

    def test_equality(self):
        self.assertTrue(Kept((0, 3)) == Kept([0, 3]))
        self.assertFalse(Kept((0, 3)) != Kept([0, 3]))
        self.assert_alone(Kept((0, 3)), Kept((0, 2)), Kept(()), (0, 3), Column((0, 3)), Crossed({}, []), None)


if __name__ == "__main__":
    unittest.main()
