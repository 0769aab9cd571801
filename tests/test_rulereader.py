"""Points 21 and 22: a rule's row, read, shown and refused; its size."""

import itertools
import unittest

from fourvoices.errors import BadRow
from fourvoices.rulereader import read_rule

FORTY = "9" * 40
THIRTY_NINE = "1" * 39
TWELVE = "1 2 3 4 5 6 7 8 9 10 11 12"

# Each row beside its size, for two voices.
ROWS = (
    ("span 1 2 0", 1), (f"span 2 1 {TWELVE}", 1), ("span 2 2 5 5 -5 5", 1), (f"span 1 1 {FORTY} -{FORTY} {FORTY}", 1),
    ("clock 1 2 12 0 7", 1), (f"clock 2 1 1 {TWELVE}", 1), (f"clock 1 1 {FORTY} -1 40", 1),
    ("move 1 1", 1), (f"move 2 {TWELVE}", 1), (f"move 1 -{FORTY} 0 0", 1),
    ("alike 1 2 7", 1), (f"alike 2 1 {TWELVE}", 1), ("alike 2 2 0 0", 1),
    ("back 1 0", 3), ("back 2 12", 3), (f"back 1 {FORTY}", 3),
    ("held 1 1", 1), ("held 2 5", 5), (f"held 1 {FORTY}", int(FORTY)),
    ("times 1 60 0 0", 1), ("times 2 -60 5 3", 4), (f"times 1 -{FORTY} {THIRTY_NINE} {FORTY}", int(FORTY) + 1),
    ("begin 1 60", 1), (f"begin 2 {TWELVE}", 1), ("begin 1 0 0 -1", 1),
    ("close 1 60", 1), (f"close 2 {TWELVE}", 1), (f"close 2 -{FORTY}", 1),
    ("every 1 0 span 1 2 3", 1), ("every 4 0 span 2 2 3 4", 4), ("every 4 3 clock 1 2 12 0 7", 4),
    (f"every {FORTY} {THIRTY_NINE} clock 2 1 {FORTY} {TWELVE}", int(FORTY)), (f"every 7 6 span 1 1 {TWELVE}", 7),
)

REFUSED = (
    # No such kind.
    "", " ", "spam 1 2 0", "Span 1 2 0", "SPAN 1 2 0", "sPan 1 2 0", "voice 1 2", "rule", "0", "1 2 3", "every", "span",
    # A word too few, a word too many.
    "span 1", "span 1 2", f"span 1 2 {TWELVE} 13", "clock 1 2", "clock 1 2 12", f"clock 1 2 12 {TWELVE} 13", "move", "move 1",
    f"move 1 {TWELVE} 13", "alike 1 2", f"alike 1 2 {TWELVE} 13", "back", "back 1", "back 1 2 3", "held", "held 1",
    "held 1 2 3", "times 1 60 0", "times 1 60 0 1 2", "times", "begin 1", f"begin 1 {TWELVE} 13", "close 1",
    f"close 1 {TWELVE} 13", "every 2", "every 2 1", "every 2 1 span", "every 2 1 span 1 2", "every 2 span 1 2 3",
    # Voices.
    "span 0 1 0", "span 1 0 0", "span 3 1 0", "span 1 3 0", "span -1 1 0", "span 1 -1 0", "clock 0 1 5 0", "clock 1 3 5 0",
    "move 0 1", "move 3 1", "move -1 1", "alike 0 1 1", "alike 1 3 1", "back 0 1", "back 3 1", "held 0 1", "held 3 1",
    "times 0 60 0 1", "times 3 60 0 1", "begin 0 1", "begin 3 1", "close 0 1", "close 3 1", "every 2 0 span 1 3 0",
    "every 2 0 clock 0 1 5 0",
    # Bounds.
    "clock 1 2 0 0", "clock 1 2 -1 0", "back 1 -1", f"back 1 -{FORTY}", "held 1 0", "held 1 -1", "times 1 60 -1 1",
    "times 1 60 0 -1", "times 1 60 -1 -1", "every 0 0 span 1 2 0", "every -1 0 span 1 2 0", "every -1 -2 span 1 2 0",
    "every 2 -1 span 1 2 0", "every 2 2 span 1 2 0", "every 2 3 span 1 2 0", "every 1 1 clock 1 2 5 0",
    "every 2 0 clock 1 2 0 0", "every 2 0 clock 1 2 -3 0",
    # Behind every M R.
    "every 2 0 every 2 0 span 1 2 0", "every 2 0 move 1 1", "every 2 0 alike 1 2 0", "every 2 0 back 1 1",
    "every 2 0 held 1 1", "every 2 0 times 1 60 0 1", "every 2 0 begin 1 1", "every 2 0 close 1 1", "every 2 0 voice 1 2",
    "every 2 0 ", "every 2 0 Span 1 2 0", "every 2 0 1 2 3", f"every 2 0 span 1 2 {TWELVE} 13",
    f"every 2 0 clock 1 2 5 {TWELVE} 13", "every 2 0  span 1 2 0", "every  2 0 span 1 2 0", "every 2 0 span 1 2 01",
    "every 02 0 span 1 2 0", "every 2 -0 span 1 2 0", "every x 0 span 1 2 0", "every 2 x span 1 2 0",
)


class Read(unittest.TestCase):
    def test_sizes(self):
        for row, size in ROWS:
            with self.subTest(row=row):
                self.assertEqual(read_rule(row, 2).size(), size)
                self.assertIs(type(read_rule(row, 2).size()), int)

    def test_shows_the_very_row(self):
        for row, size in ROWS:
            with self.subTest(row=row):
                self.assertEqual(read_rule(row, 2).shown(), row)

    def test_shows_it_behind_questions_too(self):
        for row, size in ROWS:
            rule = read_rule(row, 2)
            rule.after(rule.start(), None, (60, 63))
            rule.closes(rule.start(), None)
            self.assertEqual((rule.shown(), rule.size()), (row, size))

    def test_each_voice_that_is_told(self):
        for voices in range(1, 5):
            for one, other in itertools.product(range(1, voices + 1), repeat=2):
                for row in (f"span {one} {other} 0", f"clock {one} {other} 5 0", f"alike {one} {other} 0", f"move {one} 0",
                            f"back {one} 0", f"held {one} 1", f"times {one} 0 0 0", f"begin {one} 0", f"close {other} 0",
                            f"every 2 1 span {one} {other} 0", f"every 2 1 clock {other} {one} 3 0"):
                    self.assertEqual(read_rule(row, voices).shown(), row)

    def test_the_number_handed_in_changes_nothing(self):
        self.assertEqual(read_rule("span 1 2 0", 2, 9).shown(), "span 1 2 0")


class Refused(unittest.TestCase):
    def refused(self, text, voices=2):
        with self.subTest(text=text, voices=voices):
            with self.assertRaises(BadRow) as caught:
                read_rule(text, voices)
            self.assertEqual(caught.exception.row, 0)
            for row in (0, 3, 15):
                with self.assertRaises(BadRow) as caught:
                    read_rule(text, voices, row)
                self.assertEqual(caught.exception.row, row)

    def test_rows_that_are_none(self):
        for text in REFUSED:
            self.refused(text)

    def test_row_by_name(self):
        with self.assertRaises(BadRow) as caught:
            read_rule("span", 1, row=7)
        self.assertEqual(caught.exception.row, 7)

    def test_one_voice_more_than_told(self):
        for voices in range(1, 5):
            more = voices + 1
            for row in (f"span {more} 1 0", f"span 1 {more} 0", f"clock {more} 1 5 0", f"clock 1 {more} 5 0", f"move {more} 0",
                        f"alike {more} 1 0", f"alike 1 {more} 0", f"back {more} 0", f"held {more} 1", f"times {more} 0 0 0",
                        f"begin {more} 0", f"close {more} 0", f"every 2 1 span {more} 1 0", f"every 2 1 clock 1 {more} 3 0"):
                self.refused(row, voices)

    def test_blanks(self):
        for row, size in ROWS:
            self.refused(" " + row)
            self.refused(row + " ")
            for place, sign in enumerate(row):
                if sign == " ":
                    self.refused(row[:place] + " " + row[place:])

    def test_line_ends(self):
        for row, size in ROWS[::2]:
            self.refused("\n" + row)
            self.refused(row + "\n")
            for place, sign in enumerate(row):
                if sign == " ":
                    self.refused(row[:place] + "\n" + row[place + 1:])
                    self.refused(row[:place] + "\n" + row[place:])

    def test_great_letters(self):
        for row, size in ROWS:
            kind = row.split(" ")[0]
            self.refused(kind.upper() + row[len(kind):])
            self.refused(kind.capitalize() + row[len(kind):])

    def test_words_that_write_no_number(self):
        for row in ("span 1 2 1", "clock 1 2 2 1", "move 1 2", "alike 1 2 1", "back 1 2", "held 1 2", "times 1 2 1 1",
                    "begin 1 2", "close 1 2", "every 2 1 span 1 2 1", "every 2 1 clock 1 2 2 1"):
            words = row.split(" ")
            for place, word in enumerate(words):
                if word.isdigit():
                    for wrong in ("0" + word, "-0", "+" + word, word + ".0", word * 41, "", "-", ".", "x", word + ",", "--1"):
                        self.refused(" ".join(words[:place] + [wrong] + words[place + 1:]))

    def test_a_word_left_out_and_a_word_more(self):
        for row in ("span 1 2 1", "clock 1 2 2 1", "move 1 2", "alike 1 2 1", "back 1 2", "held 1 2", "times 1 2 1 1",
                    "begin 1 2", "close 1 2", "every 2 1 span 1 2 1", "every 2 1 clock 1 2 2 1"):
            self.refused(row.rpartition(" ")[0])
        for row in ("back 1 2", "held 1 2", "times 1 2 1 1"):
            self.refused(row + " 1")


if __name__ == "__main__":
    unittest.main()
