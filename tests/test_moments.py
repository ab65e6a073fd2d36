"""Sums of powers: points 1 and 27, the section bucketsums/moments.py."""
import random
import unittest
from fractions import Fraction
from itertools import product

from bucketsums.columns import Column
from bucketsums.errors import BadColumn, BadNumber, BadSums, TooLarge
from bucketsums.moments import column_of_sums, fewest_sums, least_apart, power_sums, same_sums
from tests.checking import Case
from tests.plain import NOT_COLUMNS, NOT_INTEGERS, STRANGE, all_counts, some_counts

COLUMN = Column((1, 0, 2))

# Nothing of this is a tuple of first sums of a column with as many values.
NOT_SUMS = STRANGE + (
    (), [], [3], [3, 4, 8], ((3, 4, 8),), (-1,), (10,), (10 ** 15,), (10 ** 15 + 1,), (10 ** 30, 0), (3, 10 ** 15),
    (3, 4, 10 ** 15), (0,) * 13, (3, 4, 9), (3, 4, 7), (3, 5, 8), (1, 4, 8), (13, 4, 8), (0, 0, 1), (0, 1, 0), (0, 1, 1),
    (1, 1, 3), (1, -1), (3, 4, -8), (18, 9, 9, 10), (19, 9), (9, 10), (1, 2), (27, 27, 44), (27, 27, 46), (28, 27, 45),
    (3, 4, "8"), ((3,), 4, 8), (3, None, 8), "348", (5, 9, 17, 33, 64), (10, 0, 0), (1, 3, 9),
) + tuple((item,) for item in NOT_INTEGERS) + tuple((1, item) for item in NOT_INTEGERS)


def plain_sums(counts, many):
    """The first sums, by adding powers of all rows."""
    rows = [value for value, count in enumerate(counts) for _ in range(count)]
    return tuple(sum(value ** exponent for value in rows) for exponent in range(many))


def by_sums(width, many):
    """All columns with this many values, by their first sums."""
    found = {}
    for counts in product(range(10), repeat=width):
        sums = [0] * many
        for value, count in enumerate(counts):
            for exponent in range(many):
                sums[exponent] += count * value ** exponent
        found.setdefault(tuple(sums), []).append(counts)
    return found


def solved(sums):
    """The only numbers that have these sums as counts, as fractions, by elimination."""
    rows = [[Fraction(value ** exponent) for value in range(len(sums))] + [Fraction(total)]
            for exponent, total in enumerate(sums)]
    for at in range(len(sums)):
        chosen = next(row for row in rows[at:] if row[at] != 0)
        rows.remove(chosen)
        rows.insert(at, [number / chosen[at] for number in chosen])
        for other in range(len(sums)):
            if other != at:
                rows[other] = [number - rows[other][at] * less for number, less in zip(rows[other], rows[at])]
    return [row[-1] for row in rows]


def apart(one, other):
    """At how many values two columns have different counts."""
    return len([1 for count, late in zip(one, other) if count != late])


class Sums(Case):
    def test_by_adding_powers(self):
        for counts in some_counts(60, 12, 27) + [(0,), (9,), (0,) * 12, (9,) * 12, (0,) * 11 + (9,), (9,) + (0,) * 11]:
            for many in range(1, 13):
                found = power_sums(Column(counts), many)
                self.assertEqual((found, type(found)), (plain_sums(counts, many), tuple))
        self.assertEqual(power_sums(Column((5,)), 3), (5, 0, 0))
        self.assertEqual(power_sums(Column((0,)), 12), (0,) * 12)
        self.assertEqual(power_sums(Column((0,) * 11 + (9,)), 12)[11], 9 * 11 ** 11)

    def test_the_column_of_sums(self):
        for counts in all_counts(1, 9) + all_counts(2, 9) + all_counts(3, 9)[::7] + some_counts(100, 12, 28) + [
                (0,) * 12, (9,) * 12, (9, 0) * 6, (0, 9) * 6]:
            found = column_of_sums(plain_sums(counts, len(counts)))
            self.assertEqual((found.counts, type(found)), (counts, Column))

    def test_sums_of_no_column(self):
        for width, most in ((1, 12), (2, 21)):
            right = by_sums(width, width)
            for sums in product(range(most), repeat=width):
                if sums in right:
                    self.assertEqual([column_of_sums(sums).counts], right[sums])
                else:
                    self.raises(BadSums, column_of_sums, sums)
        source = random.Random(29)
        seen = [0, 0]
        for counts in some_counts(40, 12, 30):
            sums = plain_sums(counts, len(counts))
            for at in range(len(sums)):
                for by in (-1, 1, 2, source.choice((-720, 720, -2, 40320))):
                    late = sums[:at] + (sums[at] + by,) + sums[at + 1:]
                    right = solved(late)
                    is_one = min(late) >= 0 and all(count in range(10) for count in right)
                    seen[is_one] += 1
                    if is_one:
                        self.assertEqual(column_of_sums(late).counts, tuple(right))
                    else:
                        self.raises(BadSums, column_of_sums, late)
        self.assertGreater(min(seen), 30)

    def test_counts_out_of_their_limits(self):
        for counts in ((10, 0), (0, 10), (-1, 3, 1), (3, -1, 3), (0, 0, 10), (5, 5, -1, 5), (10,) + (0,) * 11,
                       (0,) * 11 + (10,), (3, 4, 5, -1, 3, 3, 3)):
            sums = tuple(sum(count * value ** exponent for value, count in enumerate(counts))
                         for exponent in range(len(counts)))
            self.raises(BadSums, column_of_sums, sums)

    def test_edges(self):
        self.assertEqual(column_of_sums((0,)).counts, (0,))
        self.assertEqual(column_of_sums((9,)).counts, (9,))
        self.assertEqual(column_of_sums((0,) * 12).counts, (0,) * 12)
        self.raises(BadSums, column_of_sums, (10 ** 15,) * 12)
        self.raises(BadSums, column_of_sums, (10 ** 15 + 1,) * 12)
        self.raises(BadSums, column_of_sums, (0,) * 11 + (10 ** 15,))


class Same(Case):
    def test_by_listing_all_columns(self):
        for width in (1, 2, 3):
            for many in range(1, 5):
                for listed in list(by_sums(width, many).values())[::1 if width < 3 else 9]:
                    for counts in listed[::4]:
                        column = Column(counts)
                        found = same_sums(column, many)
                        self.assertEqual([late.counts for late in found], sorted(listed))
                        self.assertEqual({type(late) for late in found} | {type(found)}, {Column, list})
                        wanted = min([apart(counts, late) for late in listed if late != counts], default=None)
                        self.assertEqual(least_apart(column, many), wanted)

    def test_four_and_five_values(self):
        for width, step in ((4, 997), (5, 30011)):
            for many in (1, 2, 3, 4) if width == 4 else (1, 3):
                known = by_sums(width, many)
                for counts in all_counts(width, 9)[::step] + [(0,) * width, (9,) * width, (4,) * width]:
                    listed = known[plain_sums(counts, many)]
                    column = Column(counts)
                    self.assertEqual([late.counts for late in same_sums(column, many)], sorted(listed))
                    others = [apart(counts, late) for late in listed if late != counts]
                    self.assertEqual(least_apart(column, many), min(others, default=None))
                    self.assertEqual([1 for one in others if one <= many], [])

    def test_fewest_sums_by_trying_them(self):
        known = {(width, many): by_sums(width, many) for width in (1, 2, 3, 4) for many in range(1, width + 1)}
        seen = set()
        for width in (1, 2, 3, 4):
            for counts in all_counts(width, 9)[::(1, 1, 7, 211)[width - 1]] + [(0,) * width, (9,) * width]:
                wanted = min(many for many in range(1, width + 1)
                             if len(known[(width, many)][plain_sums(counts, many)]) == 1)
                self.assertEqual(fewest_sums(Column(counts)), wanted)
                seen.add(wanted)
        self.assertEqual(seen, {1, 2, 3, 4})
        self.assertEqual([fewest_sums(Column((4, 4, middle, 4, 4))) for middle in (3, 4, 5)], [5, 4, 4])
        self.assertEqual(fewest_sums(Column((0, 0, 0, 0, 0))), 1)

    def test_edges(self):
        self.assertEqual([late.counts for late in same_sums(Column((4,)), 1)], [(4,)])
        self.assertIsNone(least_apart(Column((4,)), 1))
        self.assertEqual(fewest_sums(Column((4,))), 1)
        self.assertEqual(len(same_sums(Column((4, 4, 4, 4, 4)), 12)), 1)
        self.assertEqual(same_sums(Column((0,) * 5), 1), [Column((0,) * 5)])
        self.assertEqual(same_sums(Column((9,) * 5), 1), [Column((9,) * 5)])
        self.assertEqual(least_apart(Column((4, 4, 4, 4, 4)), 1), 2)
        self.assertEqual([least_apart(Column((4, 5, 3, 5, 4)), many) for many in (2, 3, 4, 5, 12)],
                         [3, 4, 5, None, None])
        # The middle count would have to change by 6.
        self.assertIsNone(least_apart(Column((4, 4, 4, 4, 4)), 4))
        self.assertEqual(least_apart(Column((4, 4, 3, 4, 4)), 4), 5)
        # As many changes as there are sums, and one, are not always enough.
        self.assertEqual(least_apart(Column((0, 1, 0, 0, 1)), 2), 4)


class Wrong(Case):
    def test_columns(self):
        for item in NOT_COLUMNS:
            for call in (power_sums, same_sums, least_apart):
                self.all_raise(BadColumn, call, [(item, 1), (item, None), (item, 13)])
            self.raises(BadColumn, fewest_sums, item)

    def test_numbers(self):
        for item in NOT_INTEGERS + (0, -1, 13, 10 ** 30, (), []):
            for call in (power_sums, same_sums, least_apart):
                self.all_raise(BadNumber, call, [(COLUMN, item), (Column((1,)), item), (Column((1,) * 6), item)])

    def test_too_large(self):
        for width in range(6, 13):
            column = Column((1,) * width)
            for call in (same_sums, least_apart):
                self.all_raise(TooLarge, call, [(column, 1), (column, 12)])
            self.raises(TooLarge, fewest_sums, column)
            self.assertEqual(power_sums(column, 1), (width,))
        self.assertEqual(fewest_sums(Column((0,) * 4 + (1,))), 2)

    def test_sums(self):
        for item in NOT_SUMS:
            self.raises(BadSums, column_of_sums, item)


class Newness(Case):
    def test_answers_are_new(self):
        found = same_sums(COLUMN, 2)
        self.assertIsNot(same_sums(COLUMN, 2), found)
        found.clear()
        self.assertEqual(same_sums(COLUMN, 2), [Column((0, 2, 1)), Column((1, 0, 2))])
        self.assertEqual(COLUMN.counts, (1, 0, 2))


if __name__ == "__main__":
    unittest.main()
