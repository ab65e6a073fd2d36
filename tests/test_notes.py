"""Notes: points 1 and 8, the section bucketsums/notes.py."""
import random
import unittest

from bucketsums.columns import Column
from bucketsums.errors import BadIndex, BadNotes, BadNumber, BadRange, NotPossible
from bucketsums.notes import (Agreeing, Conflict, is_implied, judge_notes, needed_notes, reach_tightest,
                              tightest)
from tests.checking import Case
from tests.plain import NOT_INTEGERS, NOT_RANGES, STRANGE, all_counts, all_ranges

BAD = [(0, 2, 3, 5), (0, 1, 0, 0), (1, 2, 0, 2)]
NOT_VALUES = NOT_INTEGERS + (0, -1, 13, 100, (), [])


def agrees(counts, notes):
    """Whether counts agree with notes, as the document says it."""
    return all(least <= sum(counts[first:past]) <= most for first, past, least, most in notes)


def agreeing(values, notes):
    """All counts that agree with notes."""
    return [counts for counts in all_counts(values, 9) if agrees(counts, notes)]


def some_notes(many, seed):
    """Numbers of values with notes, always the same ones."""
    source, found = random.Random(seed), []
    for _ in range(many):
        values = source.randint(1, 3)
        notes = []
        for _ in range(source.randint(0, 6)):
            first, past = source.choice(all_ranges(values))
            least = source.randint(0, 9 * (past - first) - 1)
            notes.append((first, past, least, min(108, least + source.randint(-1, 8))))
        found.append((values, [(a, b, c, max(0, d)) for a, b, c, d in notes]))
    return found


EDGES = [
    (1, []), (3, []), (1, [(0, 1, 0, 108)] * 10), (1, [(0, 1, 9, 9)]), (1, [(0, 1, 0, 0)]), (1, [(0, 1, 5, 4)]),
    (1, [(0, 1, 108, 0)]), (2, [(0, 2, 18, 18)]), (2, [(0, 2, 19, 108)]), (2, [(0, 2, 0, 0)]), (3, [(0, 3, 27, 27)]),
    (3, [(0, 3, 28, 28)]), (3, [(0, 1, 0, 108), (1, 2, 10, 108)]), (3, [(0, 2, 5, 5), (1, 3, 5, 5), (0, 3, 4, 4)]),
    (3, [(0, 2, 2, 3), (1, 3, 2, 3), (0, 3, 7, 8)]), (3, [(0, 1, 4, 4), (0, 2, 4, 4), (0, 3, 4, 4), (1, 2, 1, 9)]),
    (2, [(0, 1, 2, 5), (0, 1, 2, 5), (0, 1, 1, 6), (0, 2, 0, 14)]),
]
ALL = some_notes(70, 1) + EDGES


class Amounts:
    """The steps of the document, written out once more for the tests."""

    def __init__(self, values, notes):
        self.known = {}
        for index, (first, past, least, most) in enumerate(notes):
            self.known["most", index] = (first, past, most)
            self.known["least", index] = (past, first, -least)
        for value in range(values):
            self.known["cap", value] = (value, value + 1, 9)
            self.known["sign", value] = (value + 1, value, 0)

    def is_proof(self, walk):
        """Whether a walk is closed and has a negative sum."""
        if not walk or any(step not in self.known for step in walk):
            return False
        rows = [self.known[step] for step in walk]
        joined = all(rows[at - 1][1] == rows[at][0] for at in range(len(rows)))
        return joined and sum(amount for _, _, amount in rows) < 0


class Answers(Case):
    def test_judge_by_listing_all_counts(self):
        kinds = set()
        for values, notes in ALL:
            found, right = judge_notes(values, notes), agreeing(values, notes)
            kinds.add(type(found))
            if right:
                self.assertIs(type(found), Agreeing)
                self.assertIn(found.counts, right)
                self.assertIs(type(found.counts), tuple)
            else:
                self.assertIs(type(found), Conflict)
                self.assertIs(type(found.walk), list)
                self.assertTrue(Amounts(values, notes).is_proof(found.walk))
            self.is_shown(True, found, values, notes)
            self.is_shown(True, found, values, tuple(notes))
        self.assertEqual(kinds, {Agreeing, Conflict})

    def test_tightest_by_listing_all_counts(self):
        for values, notes in ALL:
            right = agreeing(values, notes)
            for first, past in all_ranges(values):
                if not right:
                    self.raises(NotPossible, tightest, values, notes, first, past)
                    self.raises(NotPossible, reach_tightest, values, notes, first, past)
                    continue
                sums = [sum(counts[first:past]) for counts in right]
                self.assertEqual(tightest(values, notes, first, past), (min(sums), max(sums)))
                found = reach_tightest(values, notes, first, past)
                self.assertIs(type(found), tuple)
                self.assertEqual([type(counts) for counts in found], [tuple, tuple])
                self.assertIn(found[0], right)
                self.assertIn(found[1], right)
                self.assertEqual([sum(counts[first:past]) for counts in found], [min(sums), max(sums)])

    def test_implied_by_listing_all_counts(self):
        for values, notes in ALL:
            possible = agreeing(values, notes) != []
            for index in range(len(notes)):
                if not possible:
                    self.raises(NotPossible, is_implied, values, notes, index)
                    continue
                others = notes[:index] + notes[index + 1:]
                wanted = all(agrees(counts, [notes[index]]) for counts in agreeing(values, others))
                self.assertIs(is_implied(values, notes, index), wanted)

    def test_needed_by_listing_all_counts(self):
        for values, notes in ALL:
            if not agreeing(values, notes):
                self.raises(NotPossible, needed_notes, values, notes)
                continue
            left = list(range(len(notes)))
            for index in range(len(notes)):
                others = [notes[at] for at in left if at != index]
                if all(agrees(counts, [notes[index]]) for counts in agreeing(values, others)):
                    left.remove(index)
            self.assertEqual(needed_notes(values, notes), left)
            self.assertEqual(agreeing(values, [notes[at] for at in left]), agreeing(values, notes))

    def test_twelve_values(self):
        notes = [(at, at + 2, 3, 4) for at in range(10)]
        self.is_shown(True, judge_notes(12, notes), 12, notes)
        self.assertEqual(tightest(12, [], 0, 12), (0, 108))
        self.assertEqual(tightest(12, notes, 0, 10), (15, 20))
        self.assertEqual(tightest(12, notes, 11, 12), (0, 9))
        bad = notes[:9] + [(0, 10, 21, 108)]
        self.assertIs(type(judge_notes(12, bad)), Conflict)
        self.is_shown(True, judge_notes(12, bad), 12, bad)
        self.assertEqual(judge_notes(12, [(0, 12, 108, 108)]).counts, (9,) * 12)
        self.assertEqual(judge_notes(12, [(0, 12, 0, 0)]).counts, (0,) * 12)

    def test_many_values_walks_are_right(self):
        source, conflicts = random.Random(8), 0
        for _ in range(300):
            values = source.randint(4, 12)
            notes = []
            for _ in range(10):
                first, past = source.choice(all_ranges(values))
                least = source.randint(0, 9 * (past - first))
                notes.append((first, past, least, min(108, least + source.randint(0, 30))))
            found = judge_notes(values, notes)
            self.is_shown(True, found, values, notes)
            if isinstance(found, Conflict):
                conflicts += 1
                self.assertTrue(Amounts(values, notes).is_proof(found.walk))
                continue
            self.assertTrue(agrees(found.counts, notes))
            first, past = source.choice(all_ranges(values))
            least, greatest = reach_tightest(values, notes, first, past)
            for counts, wanted in zip((least, greatest), tightest(values, notes, first, past)):
                self.is_shown(True, Agreeing(counts), values, notes)
                self.assertEqual(sum(counts[first:past]), wanted)
        self.assertGreater(conflicts, 20)
        self.assertLess(conflicts, 280)


class Certificates(Case):
    def test_every_agreeing_counts_and_no_other(self):
        for values, notes in some_notes(12, 3) + EDGES:
            for counts in all_counts(values, 9)[::3 if values == 3 else 1]:
                self.is_shown(agrees(counts, notes), Agreeing(list(counts)), values, notes)

    def test_changed_counts(self):
        notes = [(0, 2, 3, 5), (1, 3, 0, 2)]
        self.is_shown(True, Agreeing((1, 2, 0)), 3, notes)
        wrong = [(), (1, 2), (1, 2, 0, 0), (4, -1, 0), (1, 2, -1), (10, 0, 0), (True, 2, 0), (1, 2, False), ("1", 2, 0),
                 (1, 2, None), (0, 2, 0), (1, 2, 1), (3, 3, 0)]
        for counts in wrong:
            self.is_shown(False, Agreeing(counts), 3, notes)
        self.is_shown(False, Agreeing((10, 0, 0)), 3, [])
        found = judge_notes(3, notes)
        for counts in (list(found.counts), None, 3, "120", [1, 2, 0]):
            found.counts = counts
            self.is_shown(False, found, 3, notes)

    def test_right_walks(self):
        right = [[("most", 1), ("most", 2), ("least", 0)], [("most", 2), ("least", 0), ("most", 1)],
                 [("least", 0), ("most", 1), ("most", 2)],
                 [("sign", 1), ("sign", 0), ("most", 1), ("most", 2), ("least", 0), ("most", 1), ("most", 2)],
                 [("most", 1), ("most", 2), ("least", 0)] * 3,
                 [("most", 1), ("sign", 0), ("most", 1), ("most", 2), ("least", 0)]]
        for walk in right:
            self.assertEqual(Amounts(2, BAD).is_proof(walk), walk[0] != ("sign", 1))
            self.is_shown(walk[0] != ("sign", 1), Conflict(walk), 2, BAD)
        self.is_shown(True, Conflict([("cap", 0), ("cap", 1), ("least", 0)]), 2, [(0, 2, 19, 20)])
        self.is_shown(False, Conflict([("cap", 0), ("cap", 1), ("least", 0)]), 2, [(0, 2, 18, 20)])
        self.is_shown(True, Conflict([("most", 0), ("least", 0)]), 2, [(0, 2, 5, 4)])
        self.is_shown(False, Conflict([("most", 0), ("least", 0)]), 2, [(0, 2, 5, 5)])

    def test_short_walks_tried(self):
        notes = [(0, 1, 0, 2), (1, 2, 0, 2), (0, 2, 5, 9)]
        amounts, steps = Amounts(2, notes), list(Amounts(2, notes).known)
        proofs = 0
        for one in steps:
            for other in steps:
                for third in steps:
                    for walk in ([one], [one, other], [one, other, third]):
                        proofs += amounts.is_proof(walk)
                        self.is_shown(amounts.is_proof(walk), Conflict(walk), 2, notes)
        self.assertGreater(proofs, 0)

    def test_wrong_walks(self):
        walk = [("most", 1), ("most", 2), ("least", 0)]
        wrong = [[], walk[:2], walk[1:], walk[::-1], walk + walk[:1], walk[:1] * 3, [walk[0], walk[2], walk[1]],
                 [("cap", 0), ("cap", 1), ("least", 0)], [("most", 1), ("sign", 0)]]
        for step in (("most", 3), ("most", -1), ("Most", 1), ("cap", 2), ("sign", -1), ("least", 99), ("", 1),
                     ("most", True), ("most", "1"), ("most", None), ("most",), ("most", 1, 1), "most", 1, None,
                     ["most", 1], (1, "most"), (None, 1), (("most", 1), 1), ("most", [1]), {}, (["most"], 1)):
            wrong.append([step] + walk[1:])
            wrong.append(walk + [step])
        for other in wrong:
            self.is_shown(False, Conflict(other), 2, BAD)
        found = judge_notes(2, BAD)
        right = list(found.walk)
        for other in (tuple(right), None, 3, "walk", {}, right[:-1], right + right[:1]):
            found.walk = other
            self.is_shown(False, found, 2, BAD)
        found.walk = right
        self.is_shown(True, found, 2, BAD)

    def test_conflict_where_the_notes_agree(self):
        for values, notes in some_notes(30, 4):
            if agreeing(values, notes):
                for step in Amounts(values, notes).known:
                    for other in Amounts(values, notes).known:
                        self.is_shown(False, Conflict([step, other]), values, notes)


class Wrong(Case):
    def calls(self):
        """Each function with the arguments after the notes, right ones and wrong ones."""
        return [(judge_notes, (), ()), (tightest, (0, 1), (1, 1)), (reach_tightest, (0, 1), (1, 1)),
                (is_implied, (0,), (99,)), (needed_notes, (), ()), (Agreeing((1,)).shows, (), ()),
                (Conflict([]).shows, (), ())]

    def test_numbers(self):
        for call, right, wrong in self.calls():
            for values in NOT_VALUES:
                self.raises(BadNumber, call, values, [(0, 1, 0, 9)], *right)
                self.raises(BadNumber, call, values, None, *wrong)

    def test_notes_with_index(self):
        good = (0, 1, 0, 9)
        items = STRANGE + ((), (0,), (0, 1, 0), (0, 1, 0, 9, 9), [0, 1, 0, 9], (0, 0, 0, 9), (1, 0, 0, 9), (3, 4, 0, 9),
                           (0, 4, 0, 9), (-1, 1, 0, 9), (0, 1, -1, 9), (0, 1, 0, 109), (0, 1, 109, 0), (0, 1, 0, -1))
        for item in NOT_INTEGERS:
            items += ((item, 2, 0, 9), (0, item, 0, 9), (0, 1, item, 9), (0, 1, 0, item))
        for call, right, wrong in self.calls():
            for item in items:
                for notes, index in (([item], 0), ((good, item), 1), ([good] * 9 + [item], 9), ([item] * 2, 0)):
                    self.assertEqual(self.raises(BadNotes, call, 3, notes, *right).index, index)
                    self.assertEqual(self.raises(BadNotes, call, 3, notes, *wrong).index, index)

    def test_notes_without_index(self):
        good = (0, 1, 0, 9)
        for call, right, wrong in self.calls():
            for notes in STRANGE + ([good] * 11, (good,) * 11, {good: 1}, [None] * 11):
                self.assertIsNone(self.raises(BadNotes, call, 3, notes, *right).index)
                self.assertIsNone(self.raises(BadNotes, call, 3, notes, *wrong).index)

    def test_least_above_most_is_a_note(self):
        self.assertIs(type(judge_notes(3, [(0, 1, 108, 0)])), Conflict)
        self.is_shown(False, Agreeing((0, 0, 0)), 3, [(0, 1, 108, 0)])

    def test_not_possible_comes_before_the_range_and_the_index(self):
        for call in (tightest, reach_tightest):
            self.all_raise(NotPossible, call, [(2, BAD, 0, 1), (2, BAD, 1, 1), (2, BAD, None, None)])
        self.all_raise(NotPossible, is_implied, [(2, BAD, 0), (2, BAD, 3), (2, BAD, None)])
        self.raises(NotPossible, needed_notes, 2, BAD)

    def test_ranges(self):
        for call in (tightest, reach_tightest):
            for notes in ([], [(0, 1, 0, 9)]):
                self.all_raise(BadRange, call, [(3, notes) + pair for pair in NOT_RANGES])

    def test_indices(self):
        notes = [(0, 1, 0, 9), (1, 2, 0, 5)]
        wrong = NOT_INTEGERS + (-1, 2, 10, (), [], 10 ** 30)
        self.all_raise(BadIndex, is_implied, [(3, notes, item) for item in wrong])
        self.raises(BadIndex, is_implied, 3, [], 0)


class Newness(Case):
    def test_answers_are_new(self):
        notes = [(0, 1, 0, 4), (1, 2, 0, 2), (0, 2, 0, 6)]
        self.assertIsNot(judge_notes(2, notes), judge_notes(2, notes))
        self.assertTrue(judge_notes(2, notes) == judge_notes(2, notes))
        first, again = judge_notes(2, BAD), judge_notes(2, BAD)
        self.assertIsNot(first.walk, again.walk)
        first.walk.clear()
        self.is_shown(True, again, 2, BAD)
        self.is_shown(True, judge_notes(2, BAD), 2, BAD)
        needed = needed_notes(2, notes)
        needed.append(None)
        self.assertEqual(needed_notes(2, notes), [0, 1])

    def test_arguments_are_not_kept_or_changed(self):
        notes = [(0, 1, 0, 4), (1, 2, 0, 2), (0, 2, 0, 6)]
        for call in (judge_notes, needed_notes):
            call(2, notes)
        is_implied(2, notes, 1)
        tightest(2, notes, 0, 2)
        reach_tightest(2, notes, 0, 2)
        self.assertEqual(notes, [(0, 1, 0, 4), (1, 2, 0, 2), (0, 2, 0, 6)])
        walk, counts = [("most", 0), ("least", 0)], [1, 2]
        conflict, good = Conflict(walk), Agreeing(counts)
        walk.clear()
        counts.append(9)
        self.assertEqual(conflict.walk, [("most", 0), ("least", 0)])
        self.assertEqual(good.counts, (1, 2))
        conflict.walk.append(1)
        self.assertEqual(walk, [])

    def test_equality(self):
        good, conflict = Agreeing((1, 2)), Conflict([("most", 0), ("least", 0)])
        self.assertTrue(good == Agreeing([1, 2]))
        self.assertFalse(good != Agreeing([1, 2]))
        self.assertTrue(conflict == Conflict([("most", 0), ("least", 0)]))
        self.assertFalse(conflict != Conflict([("most", 0), ("least", 0)]))
        self.assert_alone(good, Agreeing((2, 1)), Agreeing((1,)), (1, 2), [1, 2], None, Column((1, 2)), conflict)
        self.assert_alone(conflict, Conflict([("least", 0), ("most", 0)]), Conflict([]), conflict.walk, None, good)
        self.assert_alone(Agreeing(()), Conflict([]))


if __name__ == "__main__":
    unittest.main()
