"""Live columns: points 1 and 18, the section bucketsums/live.py."""
import random
import unittest

from bucketsums.columns import Column
from bucketsums.errors import BadColumn, BadCuts, BadValue, NothingDone, NotPossible
from bucketsums.histograms import Histogram, histogram
from bucketsums.live import LiveColumn
from tests.checking import Case
from tests.plain import NOT_COLUMNS, NOT_CUTS, NOT_INTEGERS, all_cuts, parts


class Model:
    """The same as a live column, by lists that are copied at each operation."""

    def __init__(self, counts, cuts):
        self.counts, self.cuts, self.journal, self.before = list(counts), list(cuts), [], []

    def can(self, name, at):
        """Whether an operation is possible."""
        if name in ("add", "remove"):
            return self.counts[at] != {"add": 9, "remove": 0}[name]
        return (at in self.cuts) == (name == "join") and (name, at) != ("join", 0)

    def do(self, name, at):
        self.before.append((list(self.counts), list(self.cuts)))
        self.journal.append((name, at))
        if name == "add":
            self.counts[at] = self.counts[at] + 1
        if name == "remove":
            self.counts[at] = self.counts[at] - 1
        if name == "split":
            self.cuts = sorted(self.cuts + [at])
        if name == "join":
            self.cuts.remove(at)

    def undo(self):
        self.counts, self.cuts = self.before.pop()
        return self.journal.pop()

    def copy(self):
        other = Model(self.counts, self.cuts)
        other.journal = list(self.journal)
        other.before = [(list(counts), list(cuts)) for counts, cuts in self.before]
        return other

    def hist(self):
        return Histogram(len(self.counts), tuple(self.cuts), tuple(sum(part) for part in parts(self.counts, self.cuts)))


NAMES = ("add", "remove", "split", "join")
STARTS = (((2, 0, 3), (0, 1)), ((9,), (0,)), ((0,), (0,)), ((9, 0, 9, 0), (0, 1, 2, 3)), ((5,) * 12, (0,)),
          ((0, 9) * 6, tuple(range(12))))


class LiveCase(Case):
    def assert_like(self, live, model):
        """All that a live column tells is as in the model."""
        self.assertEqual((live.now.counts, type(live.now)), (tuple(model.counts), Column))
        self.assertEqual((live.parted, type(live.parted)), (tuple(model.cuts), tuple))
        self.assertEqual((live.journal, type(live.journal)), (model.journal, list))
        self.assertEqual({type(operation) for operation in live.journal} - {tuple}, set())
        self.assertEqual(len(live), len(model.journal))
        self.assertTrue(live.hist() == model.hist())
        self.assertEqual(type(live.hist()), Histogram)

    def do_some(self, live, model, source, many, undos=0.2, least=0):
        """Operations by chance, after each of which all is compared."""
        for _ in range(many):
            if source.random() < undos:
                if len(model.journal) > least:
                    self.assertEqual(live.undo(), model.undo())
                else:
                    self.raises(NothingDone, live.undo)
            else:
                name, at = source.choice(NAMES), source.randrange(len(model.counts))
                if model.can(name, at):
                    model.do(name, at)
                    self.assertTrue(getattr(live, name)(at) == model.hist())
                else:
                    self.raises(NotPossible, getattr(live, name), at)
            self.assert_like(live, model)

    def undo_all(self, live, model):
        """Undo down to nothing, and one time more."""
        while model.journal:
            self.assertEqual(live.undo(), model.undo())
            self.assert_like(live, model)
        self.raises(NothingDone, live.undo)
        self.assert_like(live, model)


class Operations(LiveCase):
    def test_long_rows_of_operations(self):
        for counts, cuts in STARTS:
            for seed in range(3):
                source = random.Random(f"{counts} {seed}")
                live, model = LiveColumn(Column(counts), cuts), Model(counts, cuts)
                self.assert_like(live, model)
                self.do_some(live, model, source, 150)
                self.undo_all(live, model)
                self.assertEqual((live.now.counts, live.parted, live.journal), (counts, cuts, []))
                self.do_some(live, model, source, 40, 0)
                self.undo_all(live, model)

    def test_every_single_operation(self):
        for counts in ((0,), (9,), (0, 9), (4, 0, 9)):
            for cuts in all_cuts(len(counts)):
                for name in NAMES:
                    for at in range(len(counts)):
                        live, model = LiveColumn(Column(counts), cuts), Model(counts, cuts)
                        if model.can(name, at):
                            model.do(name, at)
                            self.assertTrue(getattr(live, name)(at) == model.hist())
                        else:
                            self.raises(NotPossible, getattr(live, name), at)
                        self.assert_like(live, model)
                        self.undo_all(live, model)

    def test_edges(self):
        live = LiveColumn(Column((8, 1)), (0,))
        self.assertEqual(live.add(0).totals, (10,))
        self.raises(NotPossible, live.add, 0)
        self.assertEqual(live.remove(1).totals, (9,))
        self.raises(NotPossible, live.remove, 1)
        self.raises(NotPossible, live.split, 0)
        self.raises(NotPossible, live.join, 0)
        self.raises(NotPossible, live.join, 1)
        self.assertEqual(live.split(1).cuts, (0, 1))
        self.raises(NotPossible, live.split, 1)
        self.raises(NotPossible, live.join, 0)
        self.assertEqual(live.join(1).cuts, (0,))
        self.assertEqual(live.journal, [("add", 0), ("remove", 1), ("split", 1), ("join", 1)])
        self.assertEqual([live.undo(), live.undo(), live.parted], [("join", 1), ("split", 1), (0,)])
        self.assertEqual([live.undo(), live.undo(), len(live)], [("remove", 1), ("add", 0), 0])
        self.raises(NothingDone, live.undo)
        self.raises(NothingDone, LiveColumn(Column((1,)), (0,)).undo)


class Branches(LiveCase):
    def test_both_sides_go_on_by_themselves(self):
        for counts, cuts in STARTS:
            source = random.Random(f"branch {counts}")
            live, model = LiveColumn(Column(counts), cuts), Model(counts, cuts)
            pairs = [(live, model)]
            for _ in range(4):
                live, model = source.choice(pairs)
                self.do_some(live, model, source, 20)
                pairs.append((live.branch(), model.copy()))
                for live, model in pairs:
                    self.assert_like(live, model)
                    self.do_some(live, model, source, 10)
            for live, model in pairs:
                self.assert_like(live, model)
                self.assertEqual(type(live), LiveColumn)
            for live, model in pairs:
                self.undo_all(live, model)
                self.assertEqual((live.now.counts, live.parted), (counts, cuts))

    def test_branch_in_a_trial(self):
        live, model = LiveColumn(Column((2, 0, 3)), (0, 1)), Model((2, 0, 3), (0, 1))
        live.add(0)
        model.do("add", 0)
        with live.trial():
            live.split(2)
            other, late = live.branch(), model.copy()
            late.do("split", 2)
            self.assert_like(other, late)
            other.add(2)
            late.do("add", 2)
            with live.trial():
                inner = live.branch()
                self.assertEqual([inner.undo(), inner.undo()], [("split", 2), ("add", 0)])
        self.assert_like(live, model)
        self.assert_like(other, late)
        self.undo_all(other, late)
        self.undo_all(live, model)
        self.assertEqual((inner.now.counts, inner.parted, len(inner)), ((2, 0, 3), (0, 1), 0))


class Trials(LiveCase):
    def setUp(self):
        self.live, self.model = LiveColumn(Column((2, 0, 3)), (0, 1)), Model((2, 0, 3), (0, 1))
        for name, at in (("add", 0), ("split", 2)):
            getattr(self.live, name)(at)
            self.model.do(name, at)

    def test_ended_by_its_end(self):
        with self.live.trial() as inner:
            self.assertIs(inner, self.live)
            self.assert_like(inner, self.model)
            late = self.model.copy()
            self.do_some(inner, late, random.Random(1), 50, least=2)
        self.assert_like(self.live, self.model)
        with self.live.trial():
            pass
        self.assert_like(self.live, self.model)
        self.do_some(self.live, self.model, random.Random(2), 50)
        self.undo_all(self.live, self.model)

    def test_undo_stops_where_the_trial_began(self):
        with self.live.trial():
            self.raises(NothingDone, self.live.undo)
            self.live.add(1)
            self.assertEqual(len(self.live), 3)
            self.assertEqual(self.live.journal[2:], [("add", 1)])
            self.assertEqual(self.live.undo(), ("add", 1))
            self.raises(NothingDone, self.live.undo)
            self.assert_like(self.live, self.model)
        self.undo_all(self.live, self.model)

    def test_nested(self):
        states = []
        with self.live.trial() as one:
            one.add(1)
            states.append(one.journal)
            with one.trial() as two:
                self.raises(NothingDone, two.undo)
                two.remove(2)
                with two.trial() as three:
                    self.assertIs(three, self.live)
                    self.raises(NothingDone, three.undo)
                    three.join(1)
                    three.join(2)
                    self.assertEqual((three.parted, three.now.counts, len(three)), ((0,), (3, 1, 2), 6))
                self.assertEqual((two.parted, two.now.counts, len(two)), ((0, 1, 2), (3, 1, 2), 4))
                self.assertEqual(two.undo(), ("remove", 2))
                self.raises(NothingDone, two.undo)
            self.assertEqual(one.journal, states[0])
            self.assertEqual(one.undo(), ("add", 1))
            self.raises(NothingDone, one.undo)
        self.assert_like(self.live, self.model)
        self.undo_all(self.live, self.model)

    def test_by_chance(self):
        source = random.Random(18)

        def go_on(model, deep):
            least = len(model.journal)
            for _ in range(3):
                self.do_some(self.live, model, source, 8, 0.4, least)
                if deep > 0:
                    with self.live.trial():
                        go_on(model.copy(), deep - 1)
                    self.assert_like(self.live, model)

        with self.live.trial():
            go_on(self.model.copy(), 3)
        self.assert_like(self.live, self.model)
        self.undo_all(self.live, self.model)

    def test_errors_are_passed_on(self):
        for error in (NotPossible("told"), ZeroDivisionError("told"), KeyboardInterrupt(), StopIteration(), BadValue("")):
            with self.assertRaises(type(error)) as caught:
                with self.live.trial():
                    self.live.add(0)
                    self.live.join(2)
                    raise error
            self.assertIs(caught.exception, error)
            self.assert_like(self.live, self.model)
        with self.assertRaises(NotPossible):
            with self.live.trial() as inner:
                inner.add(0)
                inner.join(0)
        with self.assertRaises(NothingDone):
            with self.live.trial() as inner:
                inner.add(0)
                with inner.trial():
                    inner.undo()
        self.assert_like(self.live, self.model)
        self.undo_all(self.live, self.model)

    def test_left_in_other_ways(self):
        def by_return():
            with self.live.trial() as inner:
                return inner.add(1).totals

        self.assertEqual(by_return(), (3, 1, 3))
        self.assert_like(self.live, self.model)
        for _ in range(3):
            with self.live.trial() as inner:
                inner.remove(0)
                break
        self.assert_like(self.live, self.model)
        for _ in range(3):
            with self.live.trial() as inner:
                inner.remove(0)
                continue
        self.assert_like(self.live, self.model)

    def test_a_trial_begins_when_it_is_entered(self):
        trial = self.live.trial()
        self.live.add(1)
        self.model.do("add", 1)
        with trial:
            self.raises(NothingDone, self.live.undo)
            self.live.add(1)
        self.assert_like(self.live, self.model)
        self.undo_all(self.live, self.model)

    def test_attempt(self):
        seen = []

        def work(inner):
            seen.append(inner)
            self.raises(NothingDone, inner.undo)
            inner.add(1)
            inner.join(1)
            return inner.hist().totals

        self.assertEqual(self.live.attempt(work), (4, 3))
        self.assertIs(seen[0], self.live)
        self.assertEqual(len(seen), 1)
        self.assert_like(self.live, self.model)
        self.assertIsNone(self.live.attempt(lambda inner: None))
        self.assertEqual(self.live.attempt(lambda inner: inner.attempt(lambda late: late.add(1)).totals), (3, 1, 3))
        self.assertIs(self.live.attempt(lambda inner: inner), self.live)
        self.assert_like(self.live, self.model)
        self.undo_all(self.live, self.model)

    def test_attempt_with_a_function_that_raises(self):
        error = ZeroDivisionError("told")

        def work(inner):
            inner.add(1)
            raise error

        with self.assertRaises(ZeroDivisionError) as caught:
            self.live.attempt(work)
        self.assertIs(caught.exception, error)
        self.assert_like(self.live, self.model)
        self.raises(NotPossible, self.live.attempt, lambda inner: [inner.add(1), inner.split(1)])
        self.raises(BadValue, self.live.attempt, lambda inner: [inner.add(1), inner.add(3)])
        self.raises(NothingDone, self.live.attempt, lambda inner: inner.undo())
        self.assert_like(self.live, self.model)
        self.undo_all(self.live, self.model)


class Wrong(LiveCase):
    def test_columns_and_cuts(self):
        for item in NOT_COLUMNS:
            self.all_raise(BadColumn, LiveColumn, [(item, (0,)), (item, None), (item, (1,))])
        for item in NOT_CUTS:
            self.raises(BadCuts, LiveColumn, Column((1, 2, 3)), item)
        self.raises(BadCuts, LiveColumn, Column((1, 2)), (0, 2))

    def test_values(self):
        live, model = LiveColumn(Column((9, 0, 3)), (0, 1)), Model((9, 0, 3), (0, 1))
        live.add(2)
        model.do("add", 2)
        for name in NAMES:
            for item in NOT_INTEGERS + (-1, 3, 12, 10 ** 30, (), []):
                self.raises(BadValue, getattr(live, name), item)
        self.assert_like(live, model)
        # True would be the value 1, False the value 0.
        self.raises(BadValue, live.join, True)
        self.raises(BadValue, live.split, False)
        self.assert_like(live, model)


class Newness(LiveCase):
    def test_the_journal_is_new(self):
        live = LiveColumn(Column((2, 0, 3)), (0, 1))
        live.add(0)
        self.assertIsNot(live.journal, live.journal)
        found = live.journal
        found.append(("add", 1))
        live.journal.clear()
        self.assertEqual((live.journal, len(live)), ([("add", 0)], 1))
        live.split(2)
        self.assertEqual(found, [("add", 0), ("add", 1)])

    def test_what_was_told_does_not_change(self):
        column = Column((2, 0, 3))
        live = LiveColumn(column, (0, 1))
        now, hist, parted = live.now, live.hist(), live.parted
        live.add(0)
        live.split(2)
        self.assertEqual((column.counts, now.counts, hist.totals, parted), ((2, 0, 3), (2, 0, 3), (2, 3), (0, 1)))
        self.assertTrue(hist == histogram(column, (0, 1)))
        other = LiveColumn(column, (0,))
        other.remove(0)
        self.assertEqual((column.counts, live.now.counts), ((2, 0, 3), (3, 0, 3)))

    def test_properties_are_not_methods(self):
        for name in ("now", "parted", "journal"):
            self.assertIsInstance(vars(LiveColumn)[name], property)

    def test_equality(self):
        live = LiveColumn(Column((2, 0, 3)), (0, 1))
        self.assert_alone(live, Column((2, 0, 3)), live.hist(), (0, 1), [], None)


if __name__ == "__main__":
    unittest.main()
