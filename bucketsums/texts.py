"""Histograms and notes as texts, written and read."""
from bucketsums.common import MOST_COUNT, MOST_VALUES, is_between
from bucketsums.errors import BadText
from bucketsums.histograms import Histogram, check_histogram
from bucketsums.notes import MOST_NOTES, check_notes, is_note

# In these forms of lines N stands for a number.
BUCKET_LINE = "N to N has N"
VALUES_LINE = "values N"
NOTE_LINE = "N to N from N up to N"

# No number of a text that can be read is longer, so no longer one is read.
MOST_DIGITS = 3


def _is_number(word):
    """Whether a word is a number as it is written in a text."""
    if not 1 <= len(word) <= MOST_DIGITS or not all([sign in "0123456789" for sign in word]):
        return False
    return word == "0" or word[0] != "0"


def _numbers(line, form):
    """The numbers of a line that has a form, otherwise None."""
    words = line.split(" ")
    wanted = form.split(" ")
    if len(words) != len(wanted):
        return None
    found = []
    for word, other in zip(words, wanted):
        if other == "N" and _is_number(word):
            found.append(int(word))
        elif other == "N" or word != other:
            return None
    return found


def _lines(text):
    """The lines of a text, and the characters after its last line feed."""
    if not isinstance(text, str):
        raise BadText(0)
    pieces = text.split("\n")
    return pieces[:-1], pieces[-1]


def _read_bucket(line, first):
    """The value after the last one of a bucket, and its total, or None for a wrong line."""
    numbers = _numbers(line, BUCKET_LINE)
    if numbers is None or numbers[0] != first or not first <= numbers[1] < MOST_VALUES:
        return None
    past = numbers[1] + 1
    return (past, numbers[2]) if numbers[2] <= MOST_COUNT * (past - first) else None


def _read_note(line, values):
    """The note of a line, or None for a wrong line."""
    numbers = _numbers(line, NOTE_LINE)
    if numbers is None:
        return None
    first, last, least, most = numbers
    note = (first, last + 1, least, most)
    return note if is_note(note, values) else None


def histogram_text(hist):
    """The text of a histogram."""
    check_histogram(hist)
    return "".join([f"{first} to {past - 1} has {total}\n"
                    for (first, past), total in zip(hist.buckets(), hist.totals)])


def notes_text(values, notes):
    """The text of notes."""
    check_notes(values, notes)
    lines = [f"{first} to {past - 1} from {least} up to {most}\n" for first, past, least, most in notes]
    return f"values {values}\n" + "".join(lines)


def read_histogram(text):
    """The histogram of a text."""
    lines, rest = _lines(text)
    marks = [0]
    totals = []
    for index, line in enumerate(lines):
        bucket = _read_bucket(line, marks[-1])
        if bucket is None:
            raise BadText(index)
        marks.append(bucket[0])
        totals.append(bucket[1])
    if not lines or rest:
        raise BadText(len(lines))
    return Histogram(marks[-1], tuple(marks[:-1]), tuple(totals))


def read_notes(text):
    """The number of values and the notes of a text."""
    lines, rest = _lines(text)
    head = _numbers(lines[0], VALUES_LINE) if lines else None
    if head is None or not is_between(head[0], 1, MOST_VALUES):
        raise BadText(0)
    notes = []
    for index, line in enumerate(lines[1:], 1):
        note = _read_note(line, head[0])
        if note is None or len(notes) == MOST_NOTES:
            raise BadText(index)
        notes.append(note)
    if rest:
        raise BadText(len(lines))
    return (head[0], notes)
