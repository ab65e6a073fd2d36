"""Texts: points 1 and 20, the section bucketsums/texts.py."""
import random
import unittest

from bucketsums.errors import BadHistogram, BadNotes, BadNumber, BadText
from bucketsums.histograms import Histogram
from bucketsums.texts import histogram_text, notes_text, read_histogram, read_notes
from tests.checking import Case
from tests.plain import NOT_HISTOGRAMS, NOT_INTEGERS, STRANGE, all_cuts, all_ranges, parts

NOT_TEXTS = tuple(item for item in STRANGE if not isinstance(item, str)) + (
    b"0 to 0 has 9\n", ["0 to 0 has 9\n"], ("0 to 0 has 9\n",), b"values 2\n", ["values 2"], [], (),
    Histogram(1, (0,), (9,)))

# In the place of a number: other digits, signs, zeros in front, other words.
NOT_NUMBERS = ("", "00", "01", "007", "-1", "+1", "-0", "+0", "1.", "1.0", ".1", "1e1", "1_0", "_1", "0x1", "0b1",
               "one", "a", "\u00b2", "\u0661", "\u0967", "\uff11", "\u00bd", "\u2460", "1\u0661", "\u00a01", "1\t",
               "\t1", "1\r", "\r1", "1\x0b", "1\x0c", "1\x1c", "1\x85", "1\u2028", "1,", "1;", "'1'", "1:", "\ufeff1",
               "1\x00", "9" * 5000, "None", "True", "0 0", "1 ", " 1", "N")


def small_histograms_of(width):
    """Histograms of a width, the totals 0 and the greatest ones among them."""
    source, found = random.Random(width), []
    for cuts in all_cuts(width):
        most = [9 * len(part) for part in parts(range(width), cuts)]
        for totals in (most, [0 for _ in most], [source.randint(0, total) for total in most]):
            found.append(Histogram(width, cuts, tuple(totals)))
    return found


def plain_text(hist):
    """The text of a histogram, value by value."""
    text = ""
    for part, total in zip(parts(range(hist.width), hist.cuts), hist.totals):
        text += str(part[0]) + " to " + str(part[-1]) + " has " + str(total) + "\n"
    return text


def some_notes(many, seed):
    """Numbers of values with notes, always the same ones."""
    source = random.Random(seed)
    found = [(1, []), (12, []), (12, [(0, 12, 108, 0)] * 10), (12, [(11, 12, 0, 108)]), (1, [(0, 1, 0, 0)] * 10)]
    for _ in range(many):
        values = source.randint(1, 12)
        notes = [source.choice(all_ranges(values)) + (source.randint(0, 108), source.randint(0, 108))
                 for _ in range(source.randint(0, 10))]
        found.append((values, notes))
    return found


class Writing(Case):
    def test_histograms(self):
        for width in (1, 2, 3, 4, 12):
            for hist in small_histograms_of(width)[::1 if width < 12 else 97]:
                self.assertEqual(histogram_text(hist), plain_text(hist))
                self.assertTrue(read_histogram(histogram_text(hist)) == hist)
        self.assertEqual(histogram_text(Histogram(12, (0, 10), (90, 7))), "0 to 9 has 90\n10 to 11 has 7\n")
        self.assertEqual(histogram_text(Histogram(1, (0,), (0,))), "0 to 0 has 0\n")

    def test_notes(self):
        for values, notes in some_notes(60, 20):
            wanted = ["values " + str(values)]
            for first, past, least, most in notes:
                wanted.append(f"{first} to {past - 1} from {least} up to {most}")
            self.assertEqual(notes_text(values, notes), "".join(line + "\n" for line in wanted))
            self.assertEqual(notes_text(values, tuple(notes)), notes_text(values, notes))
            self.assertEqual(read_notes(notes_text(values, notes)), (values, notes))
        self.assertEqual(notes_text(3, []), "values 3\n")
        self.assertEqual(notes_text(12, [(0, 12, 108, 5)]), "values 12\n0 to 11 from 108 up to 5\n")

    def test_wrong_histograms(self):
        self.all_raise(BadHistogram, histogram_text, [(item,) for item in NOT_HISTOGRAMS])

    def test_wrong_notes(self):
        for item in NOT_INTEGERS + (0, -1, 13, 10 ** 30, (), []):
            self.all_raise(BadNumber, notes_text, [(item, []), (item, None), (item, [None])])
        for item in STRANGE + ([(0, 1, 0, 0)] * 11,):
            self.assertIsNone(self.raises(BadNotes, notes_text, 3, item).index)
        good = (0, 1, 0, 0)
        for item in ([0, 1, 0, 0], (0, 1, 0), (0, 4, 0, 0), (1, 1, 0, 0), (0, 1, -1, 0), (0, 1, 0, 109),
                     (True, 2, 0, 0), (0, 1, 0, None), None, "0100"):
            self.assertEqual(self.raises(BadNotes, notes_text, 3, [item, good]).index, 0)
            self.assertEqual(self.raises(BadNotes, notes_text, 3, (good, good, item, None)).index, 2)


class Reading(Case):
    def at_line(self, line, call, text):
        self.assertEqual(self.raises(BadText, call, text).line, line, text)

    def test_what_is_read(self):
        hist = read_histogram("0 to 1 has 18\n2 to 2 has 0\n3 to 11 has 81\n")
        self.assertTrue(hist == Histogram(12, (0, 2, 3), (18, 0, 81)))
        self.assertEqual((type(hist.cuts), type(hist.totals)), (tuple, tuple))
        found = read_notes("values 12\n0 to 11 from 0 up to 108\n5 to 5 from 108 up to 0\n")
        self.assertEqual(found, (12, [(0, 12, 0, 108), (5, 6, 108, 0)]))
        self.assertEqual([type(found), type(found[1]), type(found[1][0])], [tuple, list, tuple])
        self.assertEqual(read_notes("values 1\n"), (1, []))

    def test_no_strings(self):
        for item in NOT_TEXTS:
            self.at_line(0, read_histogram, item)
            self.at_line(0, read_notes, item)

    def test_the_end(self):
        self.at_line(0, read_histogram, "")
        self.at_line(0, read_histogram, "0 to 0 has 9")
        self.at_line(1, read_histogram, "0 to 0 has 9\n1 to 1 has 9")
        self.at_line(2, read_histogram, "0 to 0 has 9\n1 to 1 has 9\n2")
        for rest in (" ", "\r", "x", "\t", "\x0b"):
            self.at_line(1, read_histogram, "0 to 0 has 9\n" + rest)
            self.at_line(1, read_notes, "values 1\n" + rest)
            self.at_line(2, read_notes, "values 1\n0 to 0 from 0 up to 0\n" + rest)
        self.at_line(0, read_notes, "")
        self.at_line(0, read_notes, "values 2")
        self.at_line(1, read_notes, "values 2\n0 to 0 from 0 up to 0")
        self.at_line(11, read_notes, "values 2\n" + "0 to 0 from 0 up to 0\n" * 10 + "0 to 0 from 0 up to 0")

    def test_line_feeds_only(self):
        for other in ("\r", "\r\n", "\x0b", "\x0c", "\x1c", "\x85", "\u2028"):
            self.at_line(0, read_histogram, "0 to 0 has 9" + other + "1 to 1 has 9\n")
            self.at_line(0, read_notes, "values 1" + other + "0 to 0 from 0 up to 0\n")
        self.at_line(0, read_histogram, "0 to 0 has 9\r\n")

    def test_lines_that_are_no_buckets(self):
        good = "0 to 1 has 9"
        wrong = ["", " ", good + " ", " " + good, "0  to 1 has 9", "0 to  1 has 9", "0 to 1 has  9", "0 to 1  has 9",
                 "0\tto 1 has 9", "0 to 1 has", "0 to 1 has 9 9", "0 to 1 has 9 has 9", "0 1 has 9", "0 to 1 9",
                 "to 1 has 9", "0 to has 9", "0 TO 1 has 9", "0 to 1 HAS 9", "0 To 1 has 9", "0 up 1 has 9",
                 "0 to 1 have 9", "0 has 1 to 9", "0 N 1 has 9", "N to N has N", "0 1 2 has 9", "0 to 1 5 9",
                 "0 1 1 2 9", "0 to 1 has 9.", "0-1 has 9", "0 to 1 has 9\x00", "values 1", "#" + good, "0"]
        for line in wrong:
            self.at_line(0, read_histogram, line + "\n")
            self.at_line(0, read_histogram, line + "\n2 to 3 has 1\n")
            self.at_line(1, read_histogram, good + "\n" + line.replace("1", "3").replace("0", "2") + "\n4 to 4 has 1\n")
            self.at_line(1, read_histogram, good + "\n" + line + "\n")

    def test_numbers_of_buckets(self):
        for word in NOT_NUMBERS:
            self.at_line(1, read_histogram, f"0 to 0 has 1\n{word} to 1 has 1\n2 to 2 has 1\n")
            self.at_line(1, read_histogram, f"0 to 0 has 1\n1 to {word} has 1\n2 to 2 has 1\n")
            self.at_line(1, read_histogram, f"0 to 0 has 1\n1 to 1 has {word}\n2 to 2 has 1\n")
            self.at_line(0, read_histogram, f"0 to 0 has {word}\n")

    def test_where_buckets_begin(self):
        for line in ("1 to 1 has 1", "1 to 0 has 0", "11 to 11 has 0", "12 to 12 has 0"):
            self.at_line(0, read_histogram, line + "\n")
        for line in ("0 to 1 has 1", "1 to 1 has 1", "3 to 3 has 1", "0 to 0 has 1", "2 to 1 has 0", "2 to 0 has 0"):
            self.at_line(1, read_histogram, "0 to 1 has 1\n" + line + "\n")

    def test_values_above_eleven(self):
        self.at_line(0, read_histogram, "0 to 12 has 1\n")
        self.at_line(0, read_histogram, "0 to 100 has 1\n")
        self.at_line(1, read_histogram, "0 to 10 has 1\n11 to 12 has 1\n")
        self.at_line(1, read_histogram, "0 to 11 has 1\n12 to 12 has 1\n")
        self.at_line(12, read_histogram, "".join(f"{at} to {at} has 1\n" for at in range(14)))
        self.assertEqual(read_histogram("0 to 10 has 1\n11 to 11 has 1\n").width, 12)

    def test_totals_that_are_too_great(self):
        for past in range(1, 13):
            self.assertEqual(read_histogram(f"0 to {past - 1} has {9 * past}\n").totals, (9 * past,))
            self.at_line(0, read_histogram, f"0 to {past - 1} has {9 * past + 1}\n")
        self.at_line(1, read_histogram, "0 to 4 has 5\n5 to 6 has 19\n")
        self.at_line(0, read_histogram, "0 to 11 has 1000\n")

    def test_first_lines_of_notes(self):
        wrong = ["", "values", "values ", "values  2", " values 2", "values 2 ", "Values 2", "VALUES 2", "value 2",
                 "values 0", "values 13", "values 100", "values 2 2", "2", "2 values", "values\t2", "values 2.",
                 "N 2", "values N", "0 to 0 from 0 up to 0", "values 1000000000000"]
        wrong += ["values " + word for word in NOT_NUMBERS]
        for line in wrong:
            self.at_line(0, read_notes, line + "\n")
            self.at_line(0, read_notes, line + "\n0 to 0 from 0 up to 0\n")
            self.at_line(0, read_notes, line + "\nx\nrest")
        for values in range(1, 13):
            self.assertEqual(read_notes(f"values {values}\n"), (values, []))

    def test_lines_that_are_no_notes(self):
        good = "0 to 1 from 3 up to 5"
        wrong = ["", " ", good + " ", " " + good, "0  to 1 from 3 up to 5", "0 to 1 from 3  up to 5",
                 "0 to 1 from 3 up  to 5", "0 to 1 from 3 up to  5", "0 to 1 from 3 up to", "0 to 1 from 3 up 5",
                 "0 to 1 from 3 to 5", "0 to 1 3 up to 5", "0 to 1 from 3", "0 to 1 from 3 up to 5 5", "0 to 1 has 3",
                 "0 To 1 from 3 up to 5", "0 to 1 from 3 Up to 5", "0 to 1 From 3 up to 5", "0 to 1 from 3 up To 5",
                 "0 to 1 from 3 to up 5", "to 1 from 3 up to 5", "values 3", "0 to 1 from up to 5",
                 "0 to from 3 up to 5", "N to N from N up to N", "0 1 2 from 3 up to 5",
                 "0 to 1 2 3 up to 5", "0 to 1 from 3 4 5 6", good + "\x00", good + "\r"]
        for line in wrong:
            self.at_line(1, read_notes, "values 3\n" + line + "\n")
            self.at_line(2, read_notes, "values 3\n" + good + "\n" + line + "\n" + good + "\n")
            self.at_line(1, read_notes, "values 3\n" + line + "\n" + line + "\n")

    def test_numbers_of_notes(self):
        for word in NOT_NUMBERS:
            for line in (f"{word} to 1 from 1 up to 1", f"0 to {word} from 1 up to 1", f"0 to 1 from {word} up to 1",
                         f"0 to 1 from 1 up to {word}"):
                self.at_line(1, read_notes, "values 12\n" + line + "\n")
                self.at_line(3, read_notes, "values 12\n" + "0 to 0 from 1 up to 1\n" * 2 + line + "\n")

    def test_limits_of_notes(self):
        for line in ("0 to 3 from 0 up to 0", "3 to 3 from 0 up to 0", "2 to 1 from 0 up to 0", "1 to 0 from 0 up to 0",
                     "0 to 0 from 109 up to 0", "0 to 0 from 0 up to 109", "0 to 0 from 0 up to 999",
                     "12 to 12 from 0 up to 0"):
            self.at_line(1, read_notes, "values 3\n" + line + "\n")
            self.at_line(2, read_notes, "values 3\n0 to 2 from 108 up to 108\n" + line + "\n")
        self.assertEqual(read_notes("values 3\n0 to 2 from 108 up to 0\n"), (3, [(0, 3, 108, 0)]))

    def test_eleventh_note(self):
        line = "0 to 1 from 0 up to 9\n"
        self.assertEqual(read_notes("values 2\n" + line * 10), (2, [(0, 2, 0, 9)] * 10))
        self.at_line(11, read_notes, "values 2\n" + line * 11)
        self.at_line(11, read_notes, "values 2\n" + line * 12 + "x")
        self.at_line(4, read_notes, "values 2\n" + line * 3 + "x\n" + line * 10)

    def test_the_first_wrong_line_counts(self):
        self.at_line(1, read_histogram, "0 to 0 has 9\n1 to 1 has 10\n3 to 3 has 9\nx\ny")
        self.at_line(0, read_histogram, "x\ny")
        self.at_line(2, read_notes, "values 2\n0 to 1 from 0 up to 9\n0 to 2 from 0 up to 9\n\nx")
        self.at_line(0, read_notes, "values 0\nx\ny")

    def test_every_change_of_one_character(self):
        text, notes = "0 to 1 has 12\n2 to 2 has 0\n", "values 3\n0 to 1 from 3 up to 15\n"
        for at in range(len(text)):
            for sign in "0123456789 x\n\u0661":
                changed = text[:at] + sign + text[at + 1:]
                self.read_back_or_refused(read_histogram, histogram_text, changed)
                self.read_back_or_refused(read_histogram, histogram_text, text[:at] + sign + text[at:])
        for at in range(len(notes)):
            for sign in "0123456789 x\n\u0661":
                changed = notes[:at] + sign + notes[at + 1:]
                self.read_back_or_refused(read_notes, lambda pair: notes_text(*pair), changed)
                self.read_back_or_refused(read_notes, lambda pair: notes_text(*pair), notes[:at] + sign + notes[at:])

    def read_back_or_refused(self, read, write, text):
        """A text that is read is written as it was; another one is refused."""
        try:
            found = read(text)
        except BadText as refused:
            self.assertIn(refused.line, range(text.count("\n") + 1))
        else:
            self.assertEqual(write(found), text)


class Newness(Case):
    def test_answers_are_new(self):
        text = "values 2\n0 to 1 from 0 up to 9\n"
        found = read_notes(text)
        found[1].append(None)
        self.assertEqual(read_notes(text), (2, [(0, 2, 0, 9)]))
        self.assertIsNot(read_notes(text)[1], read_notes(text)[1])
        notes = [(0, 1, 0, 0)]
        notes_text(2, notes)
        self.assertEqual(notes, [(0, 1, 0, 0)])


if __name__ == "__main__":
    unittest.main()
