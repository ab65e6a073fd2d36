"""Asks: points 1 and 11, the section bucketsums/asks.py."""
import random
import unittest

from bucketsums.asks import best_cuts, best_worth, cuts_for_all, whole_ranges
from bucketsums.errors import BadAsks, BadCuts, BadNumber
from tests.checking import Case
from tests.plain import NOT_CUTS, NOT_INTEGERS, NOT_RANGES, STRANGE, all_cuts, all_ranges, cuts_into, parts

NOT_VALUES = NOT_INTEGERS + (0, -1, 13, 100, (), [])


def some_asks(many, seed):
    """Numbers of values with asks, always the same ones."""
    source, found = random.Random(seed), []
    for _ in range(many):
        values = source.randint(1, 6)
        asks = [source.choice(all_ranges(values)) + (source.randint(1, 9),) for _ in range(source.randint(0, 8))]
        found.append((values, asks))
    return found


ALL = some_asks(60, 11) + [
    (1, []), (6, []), (1, [(0, 1, 9)] * 8), (6, [(0, 6, 1)] * 8), (4, [(1, 3, 2), (1, 3, 2)]),
    (3, [(0, 3, 1), (1, 2, 9)]),
    (6, [(at, at + 1, 1) for at in range(6)]), (5, [(1, 2, 5), (3, 4, 5), (0, 2, 9), (2, 5, 9)]),
]


def is_whole_range(values, ask, cuts):
    """Whether the range of an ask is a union of buckets: each lies inside or outside."""
    inside = set(range(ask[0], ask[1]))
    return all(set(bucket) <= inside or not set(bucket) & inside for bucket in parts(range(values), cuts))


def worth(values, asks, cuts):
    """The sum of the prices of the whole asks."""
    return sum(ask[2] for ask in asks if is_whole_range(values, ask, cuts))


class Answers(Case):
    def test_whole_ranges(self):
        for values, asks in ALL:
            for cuts in all_cuts(values):
                wanted = [at for at, ask in enumerate(asks) if is_whole_range(values, ask, cuts)]
                self.assertEqual(whole_ranges(values, asks, cuts), wanted)
                self.assertEqual(whole_ranges(values, tuple(asks), cuts), wanted)

    def test_best_by_trying_all_cuts(self):
        for values, asks in ALL:
            for buckets in range(1, values + 1):
                worths = [(worth(values, asks, cuts), cuts) for cuts in cuts_into(values, buckets)]
                greatest = max(worths)[0]
                self.assertEqual(best_worth(values, asks, buckets), greatest)
                self.assertEqual(best_worth(values, tuple(asks), buckets), greatest)
                wanted = sorted(cuts for found, cuts in worths if found == greatest)
                self.assertEqual(best_cuts(values, asks, buckets), wanted)
                self.assertEqual(best_cuts(values, tuple(asks), buckets), wanted)

    def test_cuts_for_all_by_trying_all_cuts(self):
        for values, asks in ALL:
            right = [cuts for cuts in all_cuts(values) if all(is_whole_range(values, ask, cuts) for ask in asks)]
            fewest = min(len(cuts) for cuts in right)
            self.assertIn(cuts_for_all(values, asks), [cuts for cuts in right if len(cuts) == fewest])
            self.assertEqual(cuts_for_all(values, tuple(asks)), cuts_for_all(values, asks))
            self.assertIs(type(cuts_for_all(values, asks)), tuple)

    def test_twelve_values(self):
        asks = [(at, at + 4, at + 1) for at in range(8)]
        self.assertEqual(cuts_for_all(12, asks), tuple(range(12)))
        self.assertEqual(best_worth(12, asks, 12), 36)
        self.assertEqual(best_cuts(12, asks, 12), [tuple(range(12))])
        self.assertEqual(best_cuts(12, [], 1), [(0,)])
        for buckets in range(1, 13):
            self.assertEqual(best_cuts(12, [], buckets), cuts_into(12, buckets))
            worths = {cuts: worth(12, asks, cuts) for cuts in cuts_into(12, buckets)}
            self.assertEqual(best_worth(12, asks, buckets), max(worths.values()))
            self.assertEqual(best_cuts(12, asks, buckets),
                             [cuts for cuts in sorted(worths) if worths[cuts] == max(worths.values())])

    def test_no_asks(self):
        for values in range(1, 7):
            self.assertEqual(cuts_for_all(values, ()), (0,))
            for cuts in all_cuts(values):
                self.assertEqual(whole_ranges(values, [], cuts), [])
                self.assertEqual(best_worth(values, [], len(cuts)), 0)

    def test_the_same_range_twice(self):
        self.assertEqual(whole_ranges(3, [(0, 2, 3), (0, 2, 4), (0, 2, 3)], (0, 2)), [0, 1, 2])
        self.assertEqual(best_worth(3, [(0, 2, 3), (0, 2, 4), (0, 1, 6)], 2), 7)


class Wrong(Case):
    def calls(self):
        """All functions, each with its arguments behind the asks."""
        return ((whole_ranges, (0,)), (best_worth, 1), (best_cuts, 1), (cuts_for_all,))

    def raises_at(self, index, values, asks):
        for call, *rest in self.calls():
            self.assertEqual(self.raises(BadAsks, call, values, asks, *rest).index, index)
            if rest:
                self.assertEqual(self.raises(BadAsks, call, values, asks, None).index, index)

    def test_values(self):
        for item in NOT_VALUES:
            for call, *rest in self.calls():
                self.raises(BadNumber, call, item, [], *rest)
                self.raises(BadNumber, call, item, None, *[None for _ in rest])

    def test_asks_are_no_list(self):
        for item in STRANGE + ([(0, 1, 1)] * 9, ((0, 1, 1),) * 9, [None] * 9):
            self.raises_at(None, 3, item)

    def test_items_are_no_asks(self):
        good = (0, 1, 1)
        wrong = [pair + (1,) for pair in NOT_RANGES] + [(0, 2, item) for item in NOT_INTEGERS]
        wrong += [(0, 2, price) for price in (0, -1, 10, 10 ** 30)]
        wrong += [[0, 2, 1], (), (0,), (0, 2), (0, 2, 1, 1), (0, 2, 1, 1, 1), ((0, 2), 1), "021", [(0, 2, 1)]]
        wrong += list(STRANGE)
        for item in wrong:
            self.raises_at(0, 3, [item])
            self.raises_at(1, 3, (good, item, good))
            self.raises_at(7, 3, [good] * 7 + [item])
            self.raises_at(1, 3, [good, item, None, item])

    def test_values_limit_the_asks(self):
        self.raises_at(1, 2, [(0, 2, 1), (0, 3, 1)])
        self.raises_at(0, 2, [(2, 3, 1), (0, 9, 9)])
        self.raises_at(0, 1, [(0, 2, 1)])

    def test_cuts(self):
        for item in NOT_CUTS:
            self.raises(BadCuts, whole_ranges, 3, [(0, 1, 1)], item)
            self.raises(BadCuts, whole_ranges, 3, [], item)
        self.raises(BadCuts, whole_ranges, 2, [], (0, 2))

    def test_buckets(self):
        for call in (best_worth, best_cuts):
            for item in NOT_INTEGERS + (0, -1, 4, 10 ** 30, (), []):
                self.raises(BadNumber, call, 3, [(0, 1, 1)], item)
            self.raises(BadNumber, call, 12, [], 13)
            self.raises(BadNumber, call, 1, [], 2)


class Newness(Case):
    def test_answers_are_new(self):
        asks = [(0, 2, 3), (2, 4, 2), (1, 4, 4)]
        for call, args in ((whole_ranges, (6, asks, (0, 2, 4))), (best_cuts, (6, asks, 3))):
            found = call(*args)
            found.append(7)
            self.assertNotEqual(call(*args), found)
            self.assertIs(type(found), list)
        self.assertEqual(asks, [(0, 2, 3), (2, 4, 2), (1, 4, 4)])


if __name__ == "__main__":
    unittest.main()
