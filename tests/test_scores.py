"""Points 2, 24 and 25: scores made of ranges and rules, and the fault of a line."""

import copy
import unittest

import plainly
from fourvoices.reader import read, shown
from fourvoices.rulereader import read_rule
from fourvoices.scores import Score, columns, fault, weight


class Made(unittest.TestCase):
    def test_fields_and_text(self):
        rules = [read_rule("span 1 2 0 4", 2), read_rule("held 2 3", 2)]
        score = Score([(0, 3), (-1, 4)], rules)
        self.assertEqual(score.ranges, [(0, 3), (-1, 4)])
        self.assertEqual(score.rules, rules)
        self.assertEqual((type(score.ranges), type(score.rules)), (list, list))
        self.assertEqual(shown(score), "voice 0 3\nvoice -1 4\nspan 1 2 0 4\nheld 2 3")
        self.assertEqual(weight(score), 4 * 6 * 3)
        self.assertEqual(shown(Score([(5, 5)], [])), "voice 5 5")

    def test_shown_reads_as_itself(self):
        for text in plainly.SMALL:
            score = read(text)
            again = Score(score.ranges, score.rules)
            self.assertEqual(shown(again), text)
            self.assertEqual(shown(read(shown(again))), text)

    def test_later_changes_of_the_lists_handed_in(self):
        ranges, rules = [(0, 1), (0, 1)], [read_rule("span 1 2 0", 2)]
        score = Score(ranges, rules)
        ranges[0] = (5, 9)
        ranges.append((7, 7))
        rules.clear()
        self.assertEqual(shown(score), "voice 0 1\nvoice 0 1\nspan 1 2 0")
        self.assertEqual(fault(score, [(0, 1)]), (0, 2))
        self.assertEqual(len(columns(score)), 4)

    def test_lists_handed_in_stay(self):
        ranges, rules = [(0, 1)], [read_rule("held 1 2", 1)]
        kept = list(rules)
        score = Score(ranges, rules)
        columns(score), weight(score), shown(score), fault(score, [(0,)] * 5)
        self.assertEqual((ranges, rules), ([(0, 1)], kept))

    def test_two_scores_of_the_same_lists(self):
        ranges, rules = [(0, 1)], []
        one = Score(ranges, rules)
        rules.append(read_rule("held 1 1", 1))
        other = Score(ranges, rules)
        self.assertEqual((shown(one), shown(other)), ("voice 0 1", "voice 0 1\nheld 1 1"))

    def test_no_bounds_are_asked_for(self):
        score = Score([(0, 999)], [])
        self.assertEqual((score.ranges, weight(score), fault(score, [(1000,)])), ([(0, 999)], 1000, (0, 0)))


class Fault(unittest.TestCase):
    def told(self, text, line, wanted):
        with self.subTest(text=text, line=line):
            self.assertEqual(fault(read(text), line), wanted)

    def test_all_lines_of_small_scores(self):
        for text in plainly.SMALL:
            score = read(text)
            ranges = plainly.ranges_of(text)
            beside = [tuple(low - 1 for low, high in ranges), tuple(high for low, high in ranges[:-1]) + (ranges[-1][1] + 1,)]
            notes = plainly.columns_of(text)
            for long in range(4):
                some = notes if len(notes) ** long <= 700 else notes[::2]
                for line in plainly.all_lines(some[:6] + beside, long):
                    told, wanted = fault(score, line), plainly.fault_of(text, line)
                    if told != wanted:
                        self.fail((text, line, told, wanted))
            for line in plainly.all_lines(notes, plainly.longest_for(text)):
                told, wanted = fault(score, line), plainly.fault_of(text, line)
                if told != wanted or type(told) not in (tuple, type(None)):
                    self.fail((text, line, told, wanted))

    def test_below_and_above_each_range(self):
        text = "voice 0 4\nvoice 10 11\nvoice -3 -2\nvoice 7 7"
        good = (0, 10, -3, 7)
        self.told(text, [good] * 3, None)
        for voice, (low, high) in enumerate(plainly.ranges_of(text)):
            for note in (low - 1, high + 1, low - 10 ** 30, high + 10 ** 30):
                wrong = good[:voice] + (note,) + good[voice + 1:]
                for place in range(3):
                    line = [good] * 3
                    line[place] = wrong
                    self.told(text, line, (place, voice))
            for note in (low, high):
                self.told(text, [good[:voice] + (note,) + good[voice + 1:]], None)

    def test_two_ranges_broken_at_the_same_place(self):
        self.told("voice 0 1\nvoice 0 1", [(0, 0), (2, 2)], (1, 0))
        self.told("voice 0 1\nvoice 0 1", [(0, 2), (2, 0)], (0, 1))

    def test_range_and_rule_at_the_same_place(self):
        self.told("voice 0 1\nbegin 1 0", [(5,)], (0, 0))
        self.told("voice 0 1\nvoice 0 1\nspan 1 2 0", [(0, 0), (0, 5)], (1, 1))

    def test_rule_ahead_of_a_range(self):
        self.told("voice 0 1\nbegin 1 0", [(1,), (5,)], (0, 1))

    def test_two_rules_at_the_same_place(self):
        self.told("voice 0 5\nmove 1 1\nheld 1 1", [(0,), (0,)], (1, 1))
        self.told("voice 0 5\nheld 1 1\nmove 1 1", [(0,), (0,)], (1, 1))
        self.told("voice 0 5\nmove 1 0 1\nheld 1 1\nbegin 1 0\nmove 1 1", [(0,), (0,)], (1, 2))

    def test_lower_row_broken_ahead_of_a_higher_one(self):
        self.told("voice 0 5\nheld 1 2\nheld 1 1", [(0,), (0,), (0,)], (1, 2))
        self.told("voice 0 5\nclose 1 3\nbegin 1 3\nmove 1 0", [(3,), (4,)], (1, 3))

    def test_close(self):
        self.told("voice 0 5\nclose 1 3", [(3,), (4,)], (2, 1))
        self.told("voice 0 5\nbegin 1 3\ntimes 1 0 1 2\nclose 1 3", [(3,), (4,)], (2, 2))
        self.told("voice 0 9\nback 1 2", [(0,), (5,)], (2, 1))
        self.told("voice 0 9\nback 1 2", [(0,), (5,), (5,)], (2, 1))

    def test_line_without_columns(self):
        self.told("voice 0 5", [], None)
        self.told("voice 0 5\nclose 1 3\nbegin 1 2\nback 1 0\nheld 1 1\nmove 1 1", [], None)
        self.told("voice 0 5\nbegin 1 2\ntimes 1 0 1 2", [], (0, 2))

    def test_two_hundred_columns(self):
        self.told("voice 0 1\nheld 1 1", [(0,), (1,)] * 100, None)
        self.told("voice 0 1\nheld 1 1", [(0,), (1,)] * 99 + [(0,), (0,)], (199, 1))

    def test_line_stays(self):
        line = [(0,), (9,), (0,)]
        before = copy.deepcopy(line)
        fault(read("voice 0 1\nheld 1 1"), line)
        self.assertEqual(line, before)


if __name__ == "__main__":
    unittest.main()
