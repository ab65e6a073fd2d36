"""Even columns: points 1 and 28, the section bucketsums/evener.py."""
import unittest
from itertools import product

from bucketsums.columns import Column
from bucketsums.errors import BadColumn, Unlike
from bucketsums.evener import Evener, Uneven, evenest, fewest_transfers, is_evener, judge_evener
from bucketsums.refining import Refined
from tests.checking import Case
from tests.plain import NOT_COLUMNS, NOT_INTEGERS, all_counts

ONE, OTHER = Column((0, 6, 1)), Column((3, 2, 2))


def ordered(counts):
    return tuple(sorted(counts, reverse=True))


def possible_transfers(counts):
    """All transfers that can be done."""
    return [(giver, taker) for giver in range(len(counts)) for taker in range(len(counts))
            if counts[giver] >= counts[taker] + 2]


def transferred(counts, pair):
    late = list(counts)
    late[pair[0]] -= 1
    late[pair[1]] += 1
    return tuple(late)


def reached(counts):
    """The least number of transfers to all sorted counts, by a search over all transfers."""
    begin = ordered(counts)
    found, border, seen, many = {begin: 0}, [begin], {begin}, 0
    while border:
        later, many = [], many + 1
        for one in border:
            for pair in possible_transfers(one):
                late = transferred(one, pair)
                if late not in seen:
                    seen.add(late)
                    later.append(late)
                    found.setdefault(ordered(late), many)
        border = later
    return found


def all_ways(counts, other, many):
    """All lists of so many transfers that lead to the counts of another column, in some order."""
    found = [([], ordered(counts))]
    for _ in range(many):
        found = [(done + [pair], transferred(late, pair)) for done, late in found for pair in possible_transfers(late)]
    return [done for done, late in found if ordered(late) == ordered(other)]


def shows_uneven(one, other):
    """All numbers of first places with a smaller sum in the first column."""
    return [many for many in range(len(one) + 1) if sum(ordered(one)[:many]) < sum(ordered(other)[:many])]


def kinds(width, most):
    """All counts in descending order, up to a greatest one."""
    return sorted({ordered(counts) for counts in all_counts(width, most)})


def alike(width, most):
    """All pairs of counts in descending order with the same sum."""
    return [(one, other) for one in kinds(width, most) for other in kinds(width, most) if sum(one) == sum(other)]


SIZES = ((1, 9), (2, 9), (3, 5), (4, 3))


class Answers(Case):
    def test_by_a_search_over_all_transfers(self):
        seen = set()
        for width, most in SIZES:
            for one in kinds(width, most):
                known = reached(one)
                for other in [late for late in kinds(width, most) if sum(late) == sum(one)]:
                    # The columns themselves are in any order.
                    pair, wanted = (Column(one[::-1]), Column(other[1:] + other[:1])), known.get(other)
                    self.assertEqual(fewest_transfers(*pair), wanted)
                    self.assertIs(is_evener(*pair), wanted is not None)
                    found = judge_evener(*pair)
                    self.is_shown(True, found, *pair)
                    if wanted is None:
                        self.assertIs(type(found), Uneven)
                        self.assertIn(found.many, shows_uneven(one, other))
                    else:
                        self.assertIs(type(found), Evener)
                        self.assertEqual((len(found.transfers), type(found.transfers)), (wanted, list))
                        self.assertEqual(shows_uneven(one, other), [])
                    seen.add(wanted)
        self.assertLessEqual({None, 0, 1, 2, 3, 4}, seen)

    def test_transfers_lead_to_the_counts(self):
        for one, other in alike(4, 4) + [((9,) * 6 + (0,) * 6, (5,) * 6 + (4,) * 6), ((9, 0) * 6, (5, 4) * 6),
                                         ((9,) * 12, (9,) * 12), ((9, 9, 9, 0, 0, 0), (5, 5, 5, 4, 4, 4))]:
            found = judge_evener(Column(one), Column(other))
            if isinstance(found, Evener):
                late = ordered(one)
                for pair in found.transfers:
                    self.assertIs(type(pair), tuple)
                    self.assertIn(pair, possible_transfers(late))
                    late = transferred(late, pair)
                self.assertEqual(ordered(late), ordered(other))

    def test_all_columns_of_three_values(self):
        known = {}
        for counts in all_counts(3, 3):
            known.setdefault(ordered(counts), reached(counts))
        for one, other in product(all_counts(3, 3), repeat=2):
            if sum(one) == sum(other):
                wanted = known[ordered(one)].get(ordered(other))
                self.assertEqual(fewest_transfers(Column(one), Column(other)), wanted)

    def test_evenest_by_listing(self):
        for width, most in SIZES:
            for counts in all_counts(width, most):
                even = [late for late in kinds(width, 9 if width < 4 else 3)
                        if sum(late) == sum(counts) and max(late) - min(late) <= 1]
                self.assertEqual(len(even), 1)
                found = evenest(Column(counts))
                self.assertEqual((found, type(found)), (even[0], tuple))
                self.assertTrue(is_evener(Column(counts), Column(found)))
                # No other column of this kind is more even.
                self.assertEqual(set(reached(found)), {found})

    def test_edges(self):
        self.assertEqual(judge_evener(Column((5,)), Column((5,))), Evener([]))
        self.assertEqual(judge_evener(Column((0, 0)), Column((0, 0))), Evener([]))
        self.assertEqual(judge_evener(Column((0, 1)), Column((1, 0))), Evener([]))
        self.assertEqual(judge_evener(Column((9,) * 12), Column((9,) * 12)), Evener([]))
        self.assertEqual(judge_evener(Column((2, 0)), Column((1, 1))), Evener([(0, 1)]))
        self.assertEqual(judge_evener(Column((1, 1)), Column((2, 0))), Uneven(1))
        self.assertEqual([evenest(Column(counts)) for counts in ((0,), (9,), (1, 0, 0), (0,) * 12, (9,) * 12, (0, 9))],
                         [(0,), (9,), (1, 0, 0), (0,) * 12, (9,) * 12, (5, 4)])
        self.assertEqual(fewest_transfers(Column((9,) * 6 + (0,) * 6), Column((4, 5) * 6)), 24)
        self.assertEqual(evenest(Column((9,) * 6 + (0,) * 6)), (5,) * 6 + (4,) * 6)
        # Columns that are even already.
        self.assertEqual(judge_evener(Column((2, 3, 2)), Column((3, 2, 2))), Evener([]))
        self.assertEqual(judge_evener(Column((2, 3, 2)), Column((4, 2, 1))), Uneven(1))
        self.assertEqual([evenest(Column((2, 3, 2))), evenest(Column((4, 4)))], [(3, 2, 2), (4, 4)])
        # Neither is more even than the other.
        one, other = Column((4, 1, 1)), Column((3, 3, 0))
        self.assertEqual([is_evener(one, other), is_evener(other, one)], [False, False])
        self.assertEqual([judge_evener(one, other), judge_evener(other, one)], [Uneven(2), Uneven(1)])


class Certificates(Case):
    def test_all_lists_of_transfers(self):
        shown = [0, 0]
        for one, other in (((0, 6, 1), (3, 2, 2)), ((4, 0, 0), (2, 1, 1)), ((3, 3, 0), (2, 2, 2)), ((4, 1), (3, 2)),
                           ((4, 1, 1), (3, 3, 0)), ((2, 1, 0), (1, 1, 1)), ((5, 5, 0), (4, 3, 3)), ((2, 2), (2, 2)),
                           ((4, 2, 2, 0), (3, 3, 1, 1))):
            pair, places = (Column(one), Column(other)), range(len(one))
            fewest = fewest_transfers(*pair)
            pairs = [(giver, taker) for giver in places for taker in places]
            for many in range(4):
                right = all_ways(one, other, many) if many == fewest else []
                for transfers in product(pairs, repeat=many):
                    shown[list(transfers) in right] += 1
                    self.is_shown(list(transfers) in right, Evener([list(one) for one in transfers]), *pair)
                if many == fewest:
                    self.assertGreater(len(right), 0)
        self.assertGreater(min(shown), 10)

    def test_all_numbers(self):
        shown = [0, 0]
        for one, other in alike(3, 4) + alike(4, 2) + [((4, 1, 1), (3, 3, 0)), ((3, 3, 0), (4, 1, 1))]:
            for many in range(-2, len(one) + 3):
                right = many in shows_uneven(one, other)
                shown[right] += 1
                self.is_shown(right, Uneven(many), Column(one[::-1]), Column(other))
        self.assertGreater(min(shown), 50)

    def test_one_more_than_is_needed(self):
        self.is_shown(True, Evener([(0, 1)]), Column((3, 1, 0)), Column((2, 2, 0)))
        self.is_shown(True, Evener([(0, 2)]), Column((4, 3, 1)), Column((3, 3, 2)))
        self.is_shown(False, Evener([(0, 2), (1, 2)]), Column((4, 3, 1)), Column((3, 3, 2)))
        # Two transfers lead there, too, but one is enough.
        self.assertEqual(len(all_ways((3, 1, 0), (2, 1, 1), 1)), 1)
        self.assertEqual(all_ways((3, 1, 0), (2, 1, 1), 2), [[(0, 1), (0, 2)], [(0, 1), (1, 2)]])
        self.is_shown(True, Evener([(0, 2)]), Column((3, 1, 0)), Column((2, 1, 1)))
        self.is_shown(False, Evener([(0, 1), (1, 2)]), Column((3, 1, 0)), Column((2, 1, 1)))

    def test_as_few_but_not_possible(self):
        # The last transfer makes two equal counts uneven.
        one, other = Column((9, 5, 5, 0)), Column((7, 6, 4, 2))
        self.assertEqual(fewest_transfers(one, other), 3)
        self.is_shown(True, Evener([(0, 1), (0, 3), (2, 3)]), one, other)
        self.is_shown(True, Evener([(0, 1), (2, 3), (0, 3)]), one, other)
        self.is_shown(False, Evener([(0, 3), (0, 3), (2, 1)]), one, other)
        self.is_shown(False, Evener([(2, 1), (0, 3), (0, 3)]), one, other)

    def test_changed(self):
        best = [(0, 2), (0, 1), (0, 2)]
        self.is_shown(True, Evener(best), ONE, OTHER)
        for at in range(3):
            for pair in ((0, 0), (1, 0), (2, 0), (2, 1), (0, 3), (3, 0), (-1, 2), (0, -1), (0, 1, 2), (0,), (),
                         (False, 2), (0, True), ("0", 2), (0, None), (None, None), ((0,), 2)):
                self.is_shown(False, Evener(best[:at] + [pair] + best[at + 1:]), ONE, OTHER)
            self.is_shown(False, Evener(best[:at] + best[at + 1:]), ONE, OTHER)
            self.is_shown(False, Evener(best + [best[at]]), ONE, OTHER)
        self.is_shown(False, Evener([(0, 1)] * 3), ONE, OTHER)
        self.is_shown(False, Evener([]), ONE, OTHER)
        self.is_shown(False, Evener([]), OTHER, ONE)
        self.is_shown(True, Evener([]), ONE, ONE)
        self.is_shown(True, Evener([]), ONE, Column((6, 1, 0)))
        self.is_shown(False, Evener([(0, 0)]), ONE, ONE)
        self.is_shown(False, Evener([(0, 1)]), Column((1, 0)), Column((0, 1)))
        for many in NOT_INTEGERS + (0, 3, -1, -2, 4, 10 ** 30, (1,), [1]):
            self.is_shown(False, Uneven(many), OTHER, ONE)
        self.is_shown(True, Uneven(1), OTHER, ONE)
        self.is_shown(True, Uneven(2), OTHER, ONE)
        self.is_shown(False, Uneven(1), ONE, OTHER)
        self.is_shown(False, Uneven(True), OTHER, ONE)

    def test_another_question(self):
        found = judge_evener(ONE, OTHER)
        self.is_shown(False, found, OTHER, ONE)
        self.is_shown(False, found, ONE, ONE)
        self.is_shown(False, found, ONE, Column((4, 2, 1)))
        self.is_shown(False, found, Column((5, 2)), Column((4, 3)))
        self.is_shown(True, found, Column((6, 1, 0)), Column((2, 3, 2)))

    def test_current_attributes(self):
        found = judge_evener(ONE, OTHER)
        right = list(found.transfers)
        for item in (None, 3, tuple(right), [list(pair) for pair in right], "02", {(0, 2): 1}, right[:2], [3, 4, 5]):
            found.transfers = item
            self.is_shown(False, found, ONE, OTHER)
        found.transfers = right
        self.is_shown(True, found, ONE, OTHER)
        found.transfers.append((0, 1))
        self.is_shown(False, found, ONE, OTHER)


class Wrong(Case):
    def setUp(self):
        self.calls = (judge_evener, is_evener, fewest_transfers, Evener([]).shows, Uneven(1).shows)

    def test_columns(self):
        for item in NOT_COLUMNS:
            for call in self.calls:
                self.all_raise(BadColumn, call, [(item, OTHER), (ONE, item), (item, item), (item, Column((1,)))])
            self.raises(BadColumn, evenest, item)

    def test_unlike(self):
        for call in self.calls:
            self.all_raise(Unlike, call, [
                (ONE, Column((7,))), (ONE, Column((3, 4))), (ONE, Column((3, 2, 2, 0))), (ONE, Column((3, 2, 1))),
                (Column((0,)), Column((1,))), (Column((0, 0)), Column((0,))), (OTHER, Column((3, 3, 2)))])


class Newness(Case):
    def test_answers_are_new(self):
        first = judge_evener(ONE, OTHER)
        self.assertIsNot(judge_evener(ONE, OTHER), first)
        self.assertTrue(judge_evener(ONE, OTHER) == first)
        first.transfers.clear()
        self.is_shown(True, judge_evener(ONE, OTHER), ONE, OTHER)
        self.assertIsNot(judge_evener(OTHER, ONE), judge_evener(OTHER, ONE))
        judge_evener(ONE, ONE).transfers.append((0, 1))
        self.assertEqual(judge_evener(ONE, ONE).transfers, [])
        self.assertEqual((ONE.counts, OTHER.counts), ((0, 6, 1), (3, 2, 2)))

    def test_arguments_are_not_kept(self):
        transfers = [[0, 2], (0, 1)]
        found = Evener(transfers)
        transfers[0][0] = 5
        transfers.append((0, 2))
        self.assertEqual((found.transfers, transfers), ([(0, 2), (0, 1)], [[5, 2], (0, 1), (0, 2)]))

    def test_equality(self):
        self.assertTrue(Evener([(0, 2), (0, 1)]) == Evener([[0, 2], [0, 1]]))
        self.assertFalse(Evener([(0, 2), (0, 1)]) != Evener([[0, 2], [0, 1]]))
        self.assert_alone(Evener([(0, 2), (0, 1)]), Evener([(0, 1), (0, 2)]), Evener([(0, 2)]), Uneven(1),
                          [(0, 2), (0, 1)], None)
        self.assertTrue(Uneven(2) == Uneven(2))
        self.assertFalse(Uneven(2) != Uneven(2))
        self.assert_alone(Uneven(2), Uneven(1), Evener([]), Refined(2), 2, None)


if __name__ == "__main__":
    unittest.main()
