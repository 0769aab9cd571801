"""Points 23 and 24: the text of a score, read, shown and refused."""

import itertools
import unittest

import plainly
from fourvoices.errors import BadRow, TooWide
from fourvoices.reader import read, shown
from fourvoices.rules import Rule
from fourvoices.scores import Score, columns, weight

FORTY = "9" * 40
RULES = ("span 1 1 0", "clock 1 1 5 0", "move 1 0 1", "alike 1 1 1", "back 1 2", "held 1 1", "times 1 0 0 0", "begin 1 0",
         "close 1 0", "every 1 0 span 1 1 0", "every 2 1 clock 1 1 3 0", "every 1 0 clock 1 1 3 0 1 2")

READ = plainly.SMALL + (
    "voice 0 399",
    "voice 0 19\nvoice 0 19",
    "voice 0 0\nheld 1 400",
    "voice 0 0\ntimes 1 0 0 399",
    "voice 0 0\nevery 400 0 span 1 1 0",
    "voice -5 -5\nvoice 0 0\nvoice 7 7\nvoice 60 72",
    f"voice -{FORTY} -{FORTY}",
    f"voice {FORTY} {FORTY}\nspan 1 1 {FORTY} -{FORTY} {FORTY}",
    "voice 0 9\n" + "\n".join(RULES),
) + tuple("voice 0 0\n" + "\n".join((RULES + RULES)[many:many * 2]) for many in range(1, 13))


class Read(unittest.TestCase):
    def test_shown_is_the_very_text(self):
        for text in READ:
            with self.subTest(text=text):
                self.assertEqual(shown(read(text)), text)

    def test_fields(self):
        for text in READ:
            score = read(text)
            rows = text.split("\n")
            ranges = plainly.ranges_of(text)
            self.assertIsInstance(score, Score)
            self.assertIs(type(score.ranges), list)
            self.assertIs(type(score.rules), list)
            self.assertEqual(score.ranges, ranges)
            self.assertTrue(all(type(bounds) is tuple for bounds in score.ranges))
            self.assertTrue(all(plainly.is_whole(note) for bounds in score.ranges for note in bounds))
            self.assertTrue(all(isinstance(rule, Rule) for rule in score.rules))
            self.assertEqual([rule.shown() for rule in score.rules], rows[len(ranges):])

    def test_twice_read_is_twice_made(self):
        one, other = read("voice 0 1\nheld 1 1"), read("voice 0 1\nheld 1 1")
        self.assertIsNot(one.ranges, other.ranges)
        self.assertEqual((shown(one), shown(other)), ("voice 0 1\nheld 1 1",) * 2)


class BadRows(unittest.TestCase):
    def refused(self, text, row):
        with self.subTest(text=text):
            with self.assertRaises(BadRow) as caught:
                read(text)
            self.assertEqual(caught.exception.row, row)
            self.assertTrue(plainly.is_whole(caught.exception.row))

    def test_text_without_signs(self):
        self.refused("", 0)
        self.refused(" ", 0)
        self.refused("\n", 0)

    def test_rule_as_the_first_row(self):
        for rule in RULES:
            self.refused(rule, 0)
            self.refused(rule + "\nvoice 0 1", 0)

    def test_fifth_voice(self):
        self.refused("\n".join(["voice 0 0"] * 5), 4)
        self.refused("\n".join(["voice 0 0"] * 6), 4)
        self.refused("\n".join(["voice 0 0"] * 5 + ["held 5 1"]), 4)

    def test_voice_behind_a_rule(self):
        for many in range(1, 5):
            self.refused("\n".join(["voice 0 0"] * many + ["held 1 1", "voice 0 0"]), many + 1)
            self.refused("\n".join(["voice 0 0"] * many + ["held 1 1", "held 1 1", "voice 0 0", "x"]), many + 2)

    def test_thirteenth_rule(self):
        for many in range(1, 5):
            self.refused("\n".join(["voice 0 0"] * many + ["begin 1 0"] * 13), many + 12)
            self.refused("\n".join(["voice 0 0"] * many + ["begin 1 0"] * 14), many + 12)
            self.refused("\n".join(["voice 0 0"] * many + ["begin 1 0"] * 12 + ["voice 0 0"]), many + 12)
            self.refused("\n".join(["voice 0 0"] * many + ["begin 1 0"] * 12 + [""]), many + 12)

    def test_voice_rows(self):
        for row in ("voice 1 0", "voice 0 -1", f"voice {FORTY} -{FORTY}", "voice", "voice ", "voice 0", "voice 0 ",
                    "voice 0 1 2", "voice 0 1 ", " voice 0 1", "voice  0 1", "voice 0  1", "Voice 0 1", "VOICE 0 1",
                    "voices 0 1", "voice 01 2", "voice 0 01", "voice -0 1", "voice +0 1", "voice 0 1.0", "voice 0 x",
                    "voice . 1", "voice 0,1", f"voice 0 {FORTY}9", f"voice -{FORTY}9 0", "0 1"):
            self.refused(row, 0)
            self.refused(row + "\nvoice 0 1", 0)
            for many in range(1, 4):
                self.refused("\n".join(["voice 0 0"] * many + [row, "held 1 1"]), many)
            self.refused("voice 0 0\nheld 1 1\n" + row, 2)

    def test_rules_that_are_refused(self):
        for rule in ("held 1 0", "held 1", "span 1 1", "Held 1 1", "every 2 2 span 1 1 0", "every 2 0 held 1 1", "held 1 1 ",
                     "held  1 1", "spin 1 1 0", "back 1 -1"):
            self.refused("voice 0 0\n" + rule, 1)
            self.refused("voice 0 0\nvoice 0 0\nheld 1 1\n" + rule + "\nheld 1 1", 3)

    def test_voice_that_is_not_told(self):
        for many in range(1, 5):
            voices = ["voice 0 0"] * many
            self.refused("\n".join(voices + [f"held {many + 1} 1"]), many)
            self.refused("\n".join(voices + [f"span {many + 1} 1 0"]), many)
            self.assertEqual(len(read("\n".join(voices + [f"held {many} 1"])).rules), 1)
        # The voice row behind it doesn't tell a second voice any more.
        self.refused("voice 0 0\nspan 1 2 0\nvoice 0 0", 1)

    def test_empty_rows(self):
        self.refused("\nvoice 0 0", 0)
        self.refused("voice 0 0\n", 1)
        self.refused("voice 0 0\n\nvoice 0 0", 1)
        self.refused("voice 0 0\n\nheld 1 1", 1)
        self.refused("voice 0 0\nheld 1 1\n", 2)
        self.refused("voice 0 0\nheld 1 1\n\nheld 1 1", 2)

    def test_first_of_two(self):
        self.refused("voice 1 0\nvoice 0", 0)
        self.refused("voice 0 0\nspin\nheld 1 0", 1)
        self.refused("voice 0 0\nheld 1 1\nvoice 0 0\nspin", 2)
        self.refused("x\n", 0)

    def test_ahead_of_too_wide(self):
        self.refused("voice 0 400\nspin", 1)
        self.refused(f"voice -{FORTY} {FORTY}\nheld 1 {FORTY}\n", 2)
        self.refused("voice 0 400\nheld 2 1", 1)


class Wide(unittest.TestCase):
    def too_wide(self, text, told):
        with self.subTest(text=text):
            with self.assertRaises(TooWide) as caught:
                read(text)
            self.assertEqual(caught.exception.weight, told)

    def test_four_hundred_and_one_more(self):
        for text in ("voice 0 399", "voice 0 19\nvoice 1 20", "voice 1 4\nvoice 1 5\nvoice 1 4\nvoice 1 5",
                     "voice 0 99\nheld 1 4", "voice 0 99\ntimes 1 5 0 3", "voice 0 99\nevery 4 0 span 1 1 0",
                     "voice 0 0\nheld 1 20\nheld 1 20", "voice 0 0\nheld 1 400"):
            self.assertEqual(weight(read(text)), 400)
        self.too_wide("voice 0 400", 401)
        self.too_wide("voice 0 0\nheld 1 401", 401)
        self.too_wide("voice 0 0\ntimes 1 0 0 400", 401)
        self.too_wide("voice 0 0\nevery 401 0 span 1 1 0", 401)
        self.too_wide("voice 0 1\nvoice 0 0\nheld 1 201", 402)
        self.too_wide("voice 0 133\nback 1 9", 402)
        self.too_wide("voice 0 19\nvoice 0 20", 420)
        self.too_wide("voice 0 3\n" + "\n".join(["back 1 1"] * 12), 4 * 3 ** 12)

    def test_many_figures(self):
        far = int(FORTY)
        self.too_wide(f"voice -{FORTY} {FORTY}", 2 * far + 1)
        self.too_wide("\n".join([f"voice -{FORTY} {FORTY}"] * 4), (2 * far + 1) ** 4)
        self.too_wide(f"voice 0 {FORTY}\nheld 1 {FORTY}\ntimes 1 0 0 {FORTY}\nevery {FORTY} 0 span 1 1 0",
                      (far + 1) * far * (far + 1) * far)
        self.too_wide(f"voice 0 0\n" + "\n".join([f"held 1 {FORTY}"] * 12), far ** 12)

    def test_columns(self):
        for text in READ:
            score = read(text)
            self.assertEqual(columns(score), plainly.columns_of(text))
            self.assertIs(type(columns(score)), list)
            self.assertTrue(all(type(column) is tuple for column in columns(score)))
            self.assertEqual(columns(score), sorted(columns(score)))

    def test_weight(self):
        for text in READ:
            score = read(text)
            told = len(plainly.columns_of(text))
            for rule in score.rules:
                told *= rule.size()
            self.assertEqual(weight(score), told)
        self.assertEqual(weight(read("voice 0 4\nvoice -1 1\nback 1 1\nheld 2 4\ntimes 1 0 5 1\nspan 1 2 0")), 15 * 3 * 4 * 2)

    def test_order_of_columns(self):
        self.assertEqual(columns(read("voice -1 0\nvoice 9 11")), [(-1, 9), (-1, 10), (-1, 11), (0, 9), (0, 10), (0, 11)])
        self.assertEqual(columns(read("voice 0 1\nvoice 0 0\nvoice 0 1\nvoice 5 6")),
                         [(a, 0, b, c) for a, b, c in itertools.product((0, 1), (0, 1), (5, 6))])

    def test_columns_are_the_askers_own(self):
        score = read("voice 0 1\nvoice 0 1")
        columns(score).clear()
        columns(score).append((9, 9))
        self.assertEqual(columns(score), [(0, 0), (0, 1), (1, 0), (1, 1)])


if __name__ == "__main__":
    unittest.main()
