"""Live columns: a column and cuts that change by operations, which can be undone."""
from bucketsums.columns import Column, check_column
from bucketsums.common import MOST_COUNT, check_cuts, is_between
from bucketsums.errors import BadValue, NothingDone, NotPossible
from bucketsums.histograms import histogram

# To undo an operation is to do its opposite.
OPPOSITES = {"add": "remove", "remove": "add", "split": "join", "join": "split"}


class State:
    """All that a live column is at one time; a state never changes."""

    def __init__(self, column, cuts, done, first):
        self.column = column
        self.cuts = cuts
        self.done = done
        # Only the operations from this index on can be undone.
        self.first = first


class Trial:
    """A with-block; when it ends, a live column is as it was when it began."""

    def __init__(self, live):
        self._live = live
        self._held = None

    def __enter__(self):
        held = self._live._state
        self._held = held
        self._live._state = State(held.column, held.cuts, held.done, len(held.done))
        return self._live

    def __exit__(self, kind, value, trace):
        self._live._state = self._held
        return False


def _changed(column, cuts, name, at):
    """The column and the cuts after an operation."""
    counts = list(column.counts)
    if name == "add":
        counts[at] += 1
    elif name == "remove":
        counts[at] -= 1
    elif name == "split":
        cuts = tuple(sorted(cuts + (at,)))
    else:
        cuts = tuple([cut for cut in cuts if cut != at])
    return Column(counts), cuts


class LiveColumn:
    """A column, cuts, and the journal of the operations that led to them."""

    def __init__(self, column, cuts):
        check_column(column)
        check_cuts(cuts, len(column))
        self._state = State(Column(column.counts), cuts, (), 0)

    def __len__(self):
        return len(self._state.done)

    @property
    def now(self):
        """The current column."""
        return self._state.column

    @property
    def parted(self):
        """The current cuts."""
        return self._state.cuts

    @property
    def journal(self):
        """All operations so far, in order."""
        return list(self._state.done)

    def hist(self):
        """The current histogram."""
        return histogram(self._state.column, self._state.cuts)

    def add(self, value):
        """Add a row with a value."""
        self._check_value(value)
        if self._state.column[value] == MOST_COUNT:
            raise NotPossible(f"there are {MOST_COUNT} such rows already")
        return self._do("add", value)

    def remove(self, value):
        """Remove a row with a value."""
        self._check_value(value)
        if self._state.column[value] == 0:
            raise NotPossible("there is no such row")
        return self._do("remove", value)

    def split(self, cut):
        """Make a bucket begin at a value."""
        self._check_value(cut)
        if cut in self._state.cuts:
            raise NotPossible("a bucket begins there already")
        return self._do("split", cut)

    def join(self, cut):
        """Make no bucket begin at a value."""
        self._check_value(cut)
        if cut == 0 or cut not in self._state.cuts:
            raise NotPossible("no bucket begins there, or the first one does")
        return self._do("join", cut)

    def undo(self):
        """Revert the last operation, and return it."""
        state = self._state
        if len(state.done) == state.first:
            raise NothingDone("there is no operation that can be undone")
        name, at = state.done[-1]
        column, cuts = _changed(state.column, state.cuts, OPPOSITES[name], at)
        self._state = State(column, cuts, state.done[:-1], state.first)
        return (name, at)

    def branch(self):
        """An independent live column in the same state, in which all operations can be undone."""
        state = self._state
        other = LiveColumn(state.column, state.cuts)
        other._state = State(state.column, state.cuts, state.done, 0)
        return other

    def trial(self):
        """A trial, for a with-block."""
        return Trial(self)

    def attempt(self, work):
        """Call a function with the live column inside a trial, and return its result."""
        with Trial(self) as inner:
            return work(inner)

    def _check_value(self, value):
        if not is_between(value, 0, len(self._state.column) - 1):
            raise BadValue("this is not a value of the column")

    def _do(self, name, at):
        """Do an operation that is possible, and return the histogram after it."""
        state = self._state
        column, cuts = _changed(state.column, state.cuts, name, at)
        self._state = State(column, cuts, state.done + ((name, at),), state.first)
        return self.hist()
