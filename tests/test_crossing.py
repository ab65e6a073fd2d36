"""Counters: points 1 and 17, the section bucketsums/crossing.py."""
import random
import unittest

from bucketsums.columns import Column
from bucketsums.crossing import Crossed, counters_of, cross_off, crossings, heavy, merge
from bucketsums.errors import BadCounters, BadNumber, BadStream
from bucketsums.ranks import Marks
from tests.checking import Case
from tests.plain import NOT_INTEGERS, STRANGE, all_counts

STREAM = [1, 2, 1, 3, 1, 3]


def some_streams():
    """Streams with numbers of counters, always the same ones."""
    source = random.Random(17)
    found = [[], [5], [7] * 30, list(range(12)), [0, 11] * 15, list(range(12)) + list(range(12)) + [3] * 6, STREAM,
             [0, 1, 2, 3, 4, 5, 6], [0] * 10 + [1] * 10 + [2] * 10, [0, 1, 2] * 10]
    for _ in range(60):
        most = source.randint(0, 11)
        found.append([source.randint(0, most) for _ in range(source.randint(0, 30))])
    return [(stream, counters) for stream in found for counters in range(1, 7)]


ALL = some_streams()


def walk(stream, counters):
    """The counters at the end, and how often values were crossed off, value by value."""
    found, times = [0] * 12, 0
    for value in stream:
        if found[value] > 0 or len([one for one in found if one > 0]) < counters:
            found[value] += 1
        else:
            found = [max(0, one - 1) for one in found]
            times += 1
    return {value: one for value, one in enumerate(found) if one > 0}, times


def is_right(stream, counters, found, groups):
    """Whether counters and groups are as the document says it."""
    used = [index for group in groups for index in group]
    if len(set(used)) < len(used) or not set(used) <= set(range(len(stream))) or len(found) > counters:
        return False
    for group in groups:
        if list(group) != sorted(group) or len(group) != counters + 1:
            return False
        if len({stream[index] for index in group}) <= counters:
            return False
    left = [value for index, value in enumerate(stream) if index not in used]
    return found == {value: left.count(value) for value in left}


class Answers(Case):
    def test_by_a_walk_through_the_stream(self):
        for stream, counters in ALL:
            wanted, times = walk(stream, counters)
            for same in (stream, tuple(stream)):
                found = counters_of(same, counters)
                self.assertIs(type(found), dict)
                self.assertEqual(list(found.items()), sorted(wanted.items()))
                self.assertEqual(crossings(same, counters), times)
            crossed = cross_off(stream, counters)
            self.assertTrue(is_right(stream, counters, crossed.counters, crossed.groups))
            self.assertEqual((type(crossed.counters), type(crossed.groups)), (dict, list))
            self.assertEqual({type(group) for group in crossed.groups} - {tuple}, set())
            self.is_shown(True, crossed, stream, counters)
            self.is_shown(True, crossed, tuple(stream), counters)
            for value in range(12):
                more = stream.count(value) - crossed.counters.get(value, 0)
                self.assertTrue(0 <= more <= len(crossed.groups))

    def test_heavy(self):
        for stream, counters in ALL:
            wanted = [value for value in sorted(set(stream)) if stream.count(value) > len(stream) / (counters + 1)]
            self.assertEqual(heavy(stream, counters), wanted)
            self.assertEqual(heavy(tuple(stream), counters), wanted)
            self.assertEqual(set(wanted) - set(counters_of(stream, counters)), set())
        self.assertEqual(heavy([], 1), [])
        self.assertEqual(heavy([3, 4], 1), [])
        self.assertEqual(heavy([3, 4, 3], 1), [3])
        self.assertEqual(heavy([9, 8, 7], 2), [])
        self.assertEqual(heavy([9, 8, 7], 3), [7, 8, 9])

    def test_edges(self):
        for counters in range(1, 7):
            self.assertEqual((counters_of([], counters), crossings([], counters), heavy([], counters)), ({}, 0, []))
            self.assertEqual((counters_of([7] * 30, counters), crossings([7] * 30, counters)), ({7: 30}, 0))
            self.assertEqual((cross_off([], counters).counters, cross_off([], counters).groups), ({}, []))
        self.assertEqual(counters_of(list(range(12)), 1), {})
        self.assertEqual(crossings(list(range(12)), 1), 6)
        self.assertEqual(counters_of(list(range(12)), 6), {7: 1, 8: 1, 9: 1, 10: 1, 11: 1})
        self.assertEqual(list(counters_of([3, 0, 2, 1], 4)), [0, 1, 2, 3])

    def test_merge_by_sorting_the_sums(self):
        source = random.Random(3)
        none = 0
        for _ in range(400):
            counters = source.randint(1, 6)
            most = source.choice((2, 30))
            pair = []
            for _ in range(2):
                values = source.sample(range(12), source.randint(0, counters))
                pair.append({value: source.randint(1, most) for value in values})
            sums = {value: pair[0].get(value, 0) + pair[1].get(value, 0) for value in range(12)}
            less = sorted(sums.values())[::-1][counters]
            wanted = [(value, sums[value] - less) for value in range(12) if sums[value] > less]
            found = merge(pair[0], pair[1], counters)
            self.assertIs(type(found), dict)
            self.assertEqual(list(found.items()), wanted)
            self.assertLessEqual(len(found), counters)
            none += not found
        self.assertGreater(none, 5)

    def test_merged_counters_of_streams(self):
        for (stream, counters), (other, _) in zip(ALL[::6], ALL[6::6]):
            found = merge(counters_of(stream, counters), counters_of(other, counters), counters)
            for value in range(12):
                often = stream.count(value) + other.count(value)
                self.assertLessEqual(found.get(value, 0), often)
                lower = often - found.get(value, 0)
                self.assertLessEqual(lower * (counters + 1), len(stream) + len(other))

    def test_merge_edges(self):
        self.assertEqual(merge({}, {}, 1), {})
        self.assertEqual(merge({3: 30}, {3: 30}, 1), {3: 60})
        self.assertEqual(merge({3: 5}, {4: 5}, 1), {})
        self.assertEqual(merge({3: 5}, {4: 2}, 1), {3: 3})
        self.assertEqual(merge({11: 1, 0: 2}, {}, 2), {0: 2, 11: 1})
        self.assertEqual(merge({1: 1, 2: 1}, {3: 1, 4: 1}, 2), {})
        six = {value: 30 for value in range(6)}
        self.assertEqual(merge(six, {value: 30 for value in range(6, 12)}, 6), {})
        self.assertEqual(merge(six, {value: 29 for value in range(6, 12)}, 6), {value: 1 for value in range(6)})


class Certificates(Case):
    def test_all_groups_of_a_short_stream(self):
        stream = [1, 2, 1, 3, 2]
        shown = 0
        for marks in all_counts(5, 2):
            # Each index is in no group, in the first one, or in the second one.
            groups = [tuple(at for at in range(5) if marks[at] == number) for number in (1, 2)]
            groups = [group for group in groups if group]
            left = [stream[at] for at in range(5) if marks[at] == 0]
            found = {value: left.count(value) for value in left}
            for counters in (1, 2, 3):
                right = is_right(stream, counters, found, groups)
                shown += right
                self.is_shown(right, Crossed(found, groups), stream, counters)
                self.is_shown(right, Crossed({value: found[value] for value in reversed(found)}, groups[::-1]), stream,
                              counters)
        self.assertGreater(shown, 10)

    def test_other_groups(self):
        for groups in ([(0, 1, 3)], [(1, 2, 3)], [(1, 3, 4)], [(0, 1, 5)]):
            self.is_shown(True, Crossed({1: 2, 3: 1}, groups), STREAM, 2)
            self.is_shown(True, Crossed({3: 1, 1: 2}, [list(group) for group in groups]), STREAM, 2)
        self.is_shown(True, Crossed({}, [(0, 1), (2, 3), (4, 5)]), STREAM, 1)
        self.is_shown(True, Crossed({1: 3, 2: 1, 3: 2}, []), STREAM, 3)
        self.is_shown(True, Crossed({}, []), [], 1)

    def test_changed_counters(self):
        for found in ({}, {1: 2}, {3: 1}, {1: 2, 3: 2}, {1: 3, 3: 1}, {1: 1, 3: 1}, {1: 2, 2: 1}, {1: 2, 3: 1, 2: 0},
                      {1: 2, 3: 1, 2: 1}, {1: 2, 3: 1, 12: 1}, {1: 2, 3: 0}, {1: 2, 3: -1}, {True: 2, 3: 1},
                      {1: 2, 3: True}, {1: "2", 3: 1}, {"1": 2, 3: 1}, {1: 2, 3: None}, {1: 2, None: 1},
                      {(1,): 2, 3: 1}):
            self.is_shown(False, Crossed(found, [(0, 1, 3)]), STREAM, 2)
        self.is_shown(False, Crossed({0: 0}, []), [], 1)
        self.is_shown(False, Crossed({False: 1}, []), [0], 1)
        self.is_shown(False, Crossed({0: True}, []), [0], 1)
        self.is_shown(True, Crossed({0: 1}, []), [0], 1)
        # More values than there are counters are left.
        self.is_shown(False, Crossed({1: 3, 2: 1, 3: 2}, []), STREAM, 2)

    def test_changed_groups(self):
        for groups in ([], [(0, 1)], [(0, 1, 3, 4)], [(0, 2, 3)], [(0, 1, 2)], [(1, 0, 3)], [(0, 3, 1)], [(0, 1, 6)],
                       [(-6, 1, 3)], [(0, 1, 3), (0, 1, 3)], [(0, 1, 3), (2, 1, 5)], [(0, 1, 3), ()], [()],
                       [(False, 1, 3)], [(0, True, 3)], [(0, "1", 3)], [(0, None, 3)], [(0, 1, 3), (2, 4, 5)],
                       [(0, 1, 3), (1, 2, 5)], [((0,), 1, 3)]):
            self.is_shown(False, Crossed({1: 2, 3: 1}, groups), STREAM, 2)
        # An index in two groups, where the rest would fit.
        self.is_shown(False, Crossed({1: 1}, [(0, 1, 3), (1, 2, 3)]), [1, 2, 1, 3, 1], 2)
        self.is_shown(True, Crossed({1: 2}, [(1, 2, 3)]), [1, 2, 1, 3, 1], 2)
        self.is_shown(False, Crossed({1: 2, 3: 1}, [(0, 1, 3)]), STREAM, 1)
        self.is_shown(False, Crossed({1: 2, 3: 1}, [(0, 1, 3)]), STREAM, 3)
        self.is_shown(False, Crossed({1: 2, 3: 1}, [(0, 1, 3)]), STREAM + [1], 2)
        self.is_shown(False, Crossed({1: 2, 3: 1}, [(0, 1, 3)]), [1, 2, 1, 1, 1, 3], 2)

    def test_current_attributes(self):
        found = cross_off(STREAM, 2)
        for counters in (None, 3, [(1, 2), (3, 1)], [1, 3], "13", {}):
            found.counters = counters
            self.is_shown(False, found, STREAM, 2)
        found.counters = {1: 2, 3: 1}
        self.is_shown(True, found, STREAM, 2)
        for groups in (None, 3, ((0, 1, 3),), [[0, 1, 3]], {(0, 1, 3): 1}, "013", [3], [None], [{0: 1, 1: 1, 3: 1}]):
            found.groups = groups
            self.is_shown(False, found, STREAM, 2)
        found.groups = [(0, 1, 3)]
        self.is_shown(True, found, STREAM, 2)
        found.groups.append((2, 4, 5))
        self.is_shown(False, found, STREAM, 2)


class Wrong(Case):
    def setUp(self):
        self.calls = (cross_off, counters_of, crossings, heavy, Crossed({}, []).shows)

    def raises_at(self, index, stream):
        for call in self.calls:
            for counters in (2, None, 7):
                self.assertEqual(self.raises(BadStream, call, stream, counters).index, index)

    def test_streams(self):
        for item in STRANGE + ([0] * 31, (0,) * 31, [None] * 31, Column([1])):
            self.raises_at(None, item)
        for item in NOT_INTEGERS + (-1, 12, 10 ** 30, (), []):
            self.raises_at(0, [item])
            self.raises_at(1, (0, item, 0))
            self.raises_at(29, [11] * 29 + [item])
            self.raises_at(1, [0, item, -1, item])

    def test_counters(self):
        for item in NOT_INTEGERS + (0, -1, 7, 10 ** 30, (), []):
            for call in self.calls:
                self.all_raise(BadNumber, call, [([], item), (STREAM, item)])
            self.all_raise(BadNumber, merge, [({}, {}, item), (None, None, item), ({1: 0}, [], item)])

    def test_merged_counters(self):
        wrong = [item for item in STRANGE if not isinstance(item, dict)] + [{1: item} for item in NOT_INTEGERS]
        wrong += [[], (), [(1, 2)], {1: 1, 2: 1, 3: 1}, {-1: 1}, {12: 1}, {1: -1}, {1: 31}, {1: 10 ** 30}, {1: 0},
                  {1: 1, 2: 0}, {False: 1}, {0: 2, True: 1}, {"1": 1}, {None: 1}, {(1,): 1}]
        for item in wrong:
            self.all_raise(BadCounters, merge, [(item, {}, 2), ({}, item, 2), (item, {1: 1, 2: 2}, 2), (item, item, 2)])
        for counters in range(1, 7):
            right = {value: 1 for value in range(counters)}
            self.all_raise(BadCounters, merge, [(right | {11: 1}, {}, counters), ({}, right | {11: 1}, counters)])
            self.assertEqual(merge(right, {}, counters), right)


class Newness(Case):
    def test_answers_are_new(self):
        first = cross_off(STREAM, 2)
        self.assertIsNot(cross_off(STREAM, 2), first)
        self.assertTrue(cross_off(STREAM, 2) == first)
        first.counters.clear()
        first.groups.clear()
        self.is_shown(True, cross_off(STREAM, 2), STREAM, 2)
        found = counters_of(STREAM, 2)
        found.clear()
        self.assertEqual(counters_of(STREAM, 2), {1: 2, 3: 1})
        heavy(STREAM, 1).append(3)
        self.assertEqual(heavy(STREAM, 1), [])
        one, other = {1: 2}, {2: 1}
        self.assertIsNot(merge(one, {}, 1), one)
        merge(one, other, 1)[5] = 1
        self.assertEqual((one, other, STREAM), ({1: 2}, {2: 1}, [1, 2, 1, 3, 1, 3]))

    def test_arguments_are_not_kept(self):
        counters, groups = {1: 2}, [[0, 1], (2, 3)]
        found = Crossed(counters, groups)
        counters[2] = 3
        groups[0].append(4)
        groups.append((5, 6))
        self.assertEqual((found.counters, found.groups), ({1: 2}, [(0, 1), (2, 3)]))
        self.assertEqual((counters, groups), ({1: 2, 2: 3}, [[0, 1, 4], (2, 3), (5, 6)]))

    def test_equality(self):
        found = Crossed({1: 2, 3: 1}, [(0, 1, 3)])
        self.assertTrue(found == Crossed({3: 1, 1: 2}, [[0, 1, 3]]))
        self.assertFalse(found != Crossed({3: 1, 1: 2}, [[0, 1, 3]]))
        self.assert_alone(found, Crossed({1: 2, 3: 2}, [(0, 1, 3)]), Crossed({1: 2, 3: 1}, [(1, 2, 3)]),
                          Crossed({1: 2, 3: 1}, []), Marks((1, 3), (0, 1, 3)), ({1: 2, 3: 1}, [(0, 1, 3)]), None)


if __name__ == "__main__":
    unittest.main()
