"""Notes: statements about the sums of ranges, and whether they hold together.

The place p stands for the sum of the first p counts. Each step between places
says by how much at most the sum at its end exceeds the sum at its begin: so
counts that agree with the notes exist unless some closed walk has a negative sum.
"""
from bucketsums.common import MOST_COUNT, MOST_VALUES
from bucketsums.common import are_between, check_number, check_range, is_between, is_whole
from bucketsums.errors import BadIndex, BadNotes, NotPossible

MOST_NOTES = 10
MOST_SUM = 108


class Agreeing:
    """Counts that agree with notes."""

    def __init__(self, counts):
        self.counts = tuple(counts)

    def __eq__(self, other):
        return isinstance(other, Agreeing) and self.counts == other.counts

    def shows(self, values, notes):
        """Whether the counts agree with the notes."""
        check_notes(values, notes)
        if not isinstance(self.counts, tuple) or len(self.counts) != values:
            return False
        if not are_between(self.counts, 0, MOST_COUNT):
            return False
        return all([least <= sum(self.counts[first:past]) <= most for first, past, least, most in notes])


class Conflict:
    """A walk that shows that no counts agree with notes."""

    def __init__(self, walk):
        self.walk = list(walk)

    def __eq__(self, other):
        return isinstance(other, Conflict) and self.walk == other.walk

    def shows(self, values, notes):
        """Whether the walk is closed and its sum negative."""
        check_notes(values, notes)
        # An empty walk has the sum 0, so it is wrong, too.
        if not isinstance(self.walk, list):
            return False
        steps = _steps(values, notes)
        if not all([_is_name(step) and step in steps for step in self.walk]):
            return False
        ends = [steps[step][1] for step in self.walk]
        starts = [steps[step][0] for step in self.walk]
        return starts == ends[-1:] + ends[:-1] and sum([steps[step][2] for step in self.walk]) < 0


def is_note(note, values):
    """Whether an item is a note for so many values."""
    if not isinstance(note, tuple) or len(note) != 4:
        return False
    first, past, least, most = note
    return (is_between(first, 0, values - 1) and is_between(past, first + 1, values)
            and are_between((least, most), 0, MOST_SUM))


def check_notes(values, notes):
    """Raise BadNumber for a wrong number of values, BadNotes for wrong notes."""
    check_number(values, 1, MOST_VALUES)
    if not isinstance(notes, (list, tuple)) or len(notes) > MOST_NOTES:
        raise BadNotes(None)
    for index, note in enumerate(notes):
        if not is_note(note, values):
            raise BadNotes(index)


def _check_possible(values, notes):
    """The same, and raise NotPossible if no counts agree with the notes."""
    check_notes(values, notes)
    if _lowered(_steps(values, notes), [0] * (values + 1))[2] is not None:
        raise NotPossible("no counts agree with the notes")


def _is_name(step):
    """Whether an item can name a step: True and False are no index."""
    return (isinstance(step, tuple) and len(step) == 2
            and isinstance(step[0], str) and is_whole(step[1]))


def _steps(values, notes):
    """All steps, each with the place where it begins, where it ends, and its amount."""
    found = {}
    for value in range(values):
        found[("cap", value)] = (value, value + 1, MOST_COUNT)
        found[("sign", value)] = (value + 1, value, 0)
    for index, (first, past, least, most) in enumerate(notes):
        found[("most", index)] = (first, past, most)
        found[("least", index)] = (past, first, -least)
    return found


def _lowered(steps, sums):
    """Sums at all places, lowered until all steps hold.

    With them come, for each lowered place, the last step that lowered it, and
    None; or in place of None a place that is still lowered after as many rounds
    as there are places. Then some closed walk has a negative sum.
    """
    sums = list(sums)
    came = {}
    late = None
    for _ in range(len(sums)):
        late = None
        for step in steps:
            begin, end, amount = steps[step]
            if sums[begin] + amount < sums[end]:
                sums[end] = sums[begin] + amount
                came[end] = step
                late = end
        if late is None:
            break
    return sums, came, late


def _closed_walk(steps, came, late, places):
    """The closed walk to which the steps lead back."""
    for _ in range(places):
        # Afterwards the place is on the closed walk, not only behind it.
        late = steps[came[late]][0]
    walk = [came[late]]
    while steps[walk[-1]][0] != late:
        walk.append(came[steps[walk[-1]][0]])
    return walk[::-1]


def _counts_of(sums):
    """The counts whose sums these are."""
    return tuple([other - one for one, other in zip(sums, sums[1:])])


def _greatest_sums(values, notes, start):
    """How much greater each sum can be than the one at a place, for notes that hold together."""
    # By caps and signs alone no sum exceeds the one at the place by more than this.
    loose = [max(0, place - start) * MOST_COUNT for place in range(values + 1)]
    return _lowered(_steps(values, notes), loose)[0]


def _tightest(values, notes, first, past):
    return (-_greatest_sums(values, notes, past)[first], _greatest_sums(values, notes, first)[past])


def _follows(values, notes, index):
    """Whether a note follows from the other ones, which hold together."""
    first, past, least, most = notes[index]
    others = [note for at, note in enumerate(notes) if at != index]
    low, high = _tightest(values, others, first, past)
    return least <= low and high <= most


def judge_notes(values, notes):
    """Counts that agree with the notes, or a walk that shows that there are none."""
    check_notes(values, notes)
    steps = _steps(values, notes)
    sums, came, late = _lowered(steps, [0] * (values + 1))
    if late is None:
        return Agreeing(_counts_of(sums))
    return Conflict(_closed_walk(steps, came, late, values + 1))


def tightest(values, notes, first, past):
    """The smallest and the greatest sum of a range, by the notes."""
    _check_possible(values, notes)
    check_range(first, past, values)
    return _tightest(values, notes, first, past)


def reach_tightest(values, notes, first, past):
    """Counts that agree with the notes and have the smallest, and the greatest, sum of a range."""
    _check_possible(values, notes)
    check_range(first, past, values)
    return (_counts_of(_greatest_sums(values, notes, past)), _counts_of(_greatest_sums(values, notes, first)))


def is_implied(values, notes, index):
    """Whether a note follows from the other ones."""
    _check_possible(values, notes)
    if not is_between(index, 0, len(notes) - 1):
        raise BadIndex("there is no note with this index")
    return _follows(values, notes, index)


def needed_notes(values, notes):
    """The indices of the notes that are left when those that follow are dropped in order."""
    _check_possible(values, notes)
    left = list(range(len(notes)))
    for index in range(len(notes)):
        if _follows(values, [notes[at] for at in left], left.index(index)):
            left.remove(index)
    return left
