"""Point 4, "The whole", and point 2 over the whole program: many small scores held against all their short lines."""

import copy
import itertools
import unittest

import plainly
from fourvoices.counts import counted, counts_paper
from fourvoices.errors import Apart, Crowded, NoLine, NoNumber, TooWide, Unfit
from fourvoices.folds import Folding
from fourvoices.joins import joined
from fourvoices.lines import agrees, holes, read_line, shown_line
from fourvoices.machine import Machine
from fourvoices.mends import mended
from fourvoices.numbers import ahead, following, line_at, number_of
from fourvoices.parts import pairs, parted
from fourvoices.prices import price, prices_paper
from fourvoices.reader import read, shown
from fourvoices.rings import heights, longest, ring_of
from fourvoices.rulereader import read_rule
from fourvoices.rules import broken_at
from fourvoices.scores import Score, columns, fault, weight
from fourvoices.shares import shares

ONE_VOICE = (
    "span 1 1 0", "clock 1 1 4 1", "move 1 1 -1", "move 1 0 2 -2", "alike 1 1 0", "back 1 0", "back 1 1", "held 1 1", "held 1 2",
    "times 1 0 1 2", "times 1 1 2 1", "times 1 2 0 0", "begin 1 0 1", "close 1 1 2", "every 2 1 span 1 1 5", "every 3 0 clock 1 1 2 0",
)
TWO_VOICES = (
    "span 1 2 0 1", "span 2 1 -1 0", "clock 1 2 3 0 2", "move 2 1 -1 0", "alike 1 2 0 1", "alike 2 1 0", "back 2 0", "back 1 1",
    "held 2 1", "times 2 1 1 2", "begin 2 0", "close 1 0", "every 2 0 span 1 2 0", "every 2 1 clock 2 1 2 1",
)


def texts():
    for rules in itertools.combinations(ONE_VOICE, 2):
        yield "\n".join(("voice 0 2",) + rules)
    for rules in itertools.combinations(TWO_VOICES, 2):
        yield "\n".join(("voice 0 1", "voice 0 1") + rules)
    for rules in zip(TWO_VOICES, TWO_VOICES[3:], TWO_VOICES[5:]):
        yield "\n".join(("voice -1 0", "voice 0 1") + rules)
    yield from plainly.SMALL


def patterns(text, long):
    """A few of the patterns, other ones for other scores."""
    told = list(plainly.patterns_for(text, long))
    turn = len(text) + sum(map(ord, text)) % 5
    return told[:1] + [told[turn % len(told)], told[(turn + 3) % len(told)]]


class Whole(unittest.TestCase):
    def hold_lines(self, text, score, machine, folding, long):
        """The first fault, the walk and the folding of each line."""
        fitting = []
        for line in plainly.all_lines(plainly.columns_of(text), long):
            wanted = plainly.fault_of(text, line)
            state = machine.walk(line)
            walked = state is not None and machine.ends(state)
            lost = wanted is not None and wanted[0] < long
            here = 0 if folding.size() else None
            for column in line:
                here = None if here is None else folding.to(here, column)
            folded = here is not None and folding.ends(here)
            fits = wanted is None
            if (fault(score, line), walked, state is None, folded) != (wanted, fits, lost, fits):
                self.fail((text, line))
            if fits:
                fitting.append(line)
        return fitting

    def hold_pattern(self, text, machine, pattern, fitting):
        """Counts, numbers there and back, mended lines."""
        lines = [line for line in fitting if plainly.takes(pattern, line)]
        self.assertEqual(counted(machine, pattern), len(lines), (text, pattern))
        for number in (-1, len(lines)):
            with self.assertRaises(NoNumber):
                line_at(machine, pattern, number)
        for number in sorted({0, 1, len(lines) // 2, len(lines) - 1}):
            if 0 <= number < len(lines):
                self.assertEqual(line_at(machine, pattern, number), lines[number], (text, pattern))
                self.assertEqual(number_of(machine, pattern, lines[number]), number, (text, pattern))
                self.assertEqual(ahead(machine, pattern, lines[number]), number)
                self.assertEqual(following(machine, pattern, lines[number]), (lines + [None])[number + 1])
        costs = [(sum(wanted not in (None, note) for column, given in zip(line, pattern) for note, wanted in zip(column, given)),
                  line) for line in fitting]
        if costs:
            self.assertEqual(mended(machine, pattern), min(costs), (text, pattern))
        else:
            with self.assertRaises(NoLine):
                mended(machine, pattern)

    def test_held_against_all_lines(self):
        for text in texts():
            score = read(text)
            machine = Machine(score)
            folding = Folding(machine)
            self.assertEqual(shown(score), text)
            self.assertLessEqual(machine.size(), weight(score) + 1)
            self.assertLessEqual(folding.size(), machine.size())
            for long in range(min(plainly.longest_for(text), 4) + 1):
                fitting = self.hold_lines(text, score, machine, folding, long)
                for pattern in patterns(text, long):
                    self.hold_pattern(text, machine, pattern, fitting)

    def test_joined_scores(self):
        made = [text for text in texts() if text.startswith("voice 0 2\n")][::9]
        made += [text for text in texts() if text.startswith("voice 0 1\nvoice 0 1\n")][::9] + list(plainly.SMALL[::4])
        for one, other in itertools.product(made, repeat=2):
            try:
                both = joined(read(one), read(other))
            except (Apart, Crowded, TooWide):
                continue
            machine = Machine(both)
            for long in range(4):
                for line in plainly.all_lines(plainly.columns_of(shown(both)), long):
                    fits = plainly.fault_of(one, line) is None and plainly.fault_of(other, line) is None
                    state = machine.walk(line)
                    if (fault(both, line) is None, state is not None and machine.ends(state)) != (fits, fits):
                        self.fail((one, other, line))

    def test_same_table_just_where_nothing_parts(self):
        made = [Machine(read(text)) for text in list(texts())[::5]]
        tables = [Folding(machine).table() for machine in made]
        for one, other in itertools.product(range(len(made)), repeat=2):
            if len(made[one].score.ranges) == len(made[other].score.ranges):
                self.assertEqual(tables[one] == tables[other], parted(made[one], made[other]) is None)

    def test_lengths(self):
        for text in list(texts())[::3]:
            machine = Machine(read(text))
            counts = [counted(machine, holes(len(machine.score.ranges), long)) for long in range(2 * machine.size() + 1)]
            lengths = [long for long, count in enumerate(counts) if count]
            endless = any(long >= machine.size() for long in lengths)
            ring = ring_of(machine)
            self.assertEqual(ring is not None, endless, text)
            if endless:
                for often in range(4):
                    self.assertIsNone(plainly.fault_of(text, ring[0] + ring[1] * often + ring[2]))
            else:
                self.assertEqual(longest(machine), max(lengths, default=-1), text)


def all_answers(score, machine, rule, line, pattern, prices):
    """One answer of each part of the program, those that are lists among them."""
    voices = len(score.ranges)
    return [
        lambda: read_line(shown_line(pattern), voices), lambda: holes(voices, 3), lambda: agrees(line[0], pattern[0]),
        lambda: broken_at(rule, line), lambda: columns(score), lambda: fault(score, line), lambda: shown(joined(score, score)),
        lambda: machine.walk(line), lambda: counts_paper(machine, pattern), lambda: shares(machine, pattern, 1, 1),
        lambda: line_at(machine, pattern, 0), lambda: number_of(machine, pattern, line), lambda: ahead(machine, pattern, line),
        lambda: following(machine, pattern, line), lambda: price(line[0], pattern[0], prices),
        lambda: prices_paper(machine, pattern, prices), lambda: mended(machine, pattern, prices),
        lambda: Folding(machine).table(), lambda: Folding(machine).tail(0, 1), lambda: pairs(machine, machine),
        lambda: parted(machine, Machine(read("voice 0 2\nvoice 0 1\nheld 1 3"))), lambda: ring_of(machine),
        lambda: heights(Machine(read("voice 0 2\nmove 1 1"))), lambda: longest(Machine(read("voice 0 2\nmove 1 1"))),
    ]


def spoil(told):
    if isinstance(told, (list, tuple)):
        for inner in told:
            spoil(inner)
    if isinstance(told, list):
        told.clear()
        told.append("spoilt")


class KeptApart(unittest.TestCase):
    def setUp(self):
        self.score = read("voice 0 2\nvoice 0 1\nheld 1 1\nspan 1 2 0 1 -1\nback 2 1")
        self.machine = Machine(self.score)
        self.rule = read_rule("held 1 1", 2)
        self.line = [(0, 0), (1, 1), (2, 1)]
        self.pattern = [(None, 0), (1, None), (2, None)]
        self.prices = [2, 3]

    def answers(self):
        return all_answers(self.score, self.machine, self.rule, self.line, self.pattern, self.prices)

    def test_what_is_handed_in_stays(self):
        kept = copy.deepcopy((self.line, self.pattern, self.prices, self.score.ranges))
        for answer in self.answers():
            answer()
        self.assertEqual((self.line, self.pattern, self.prices, self.score.ranges), kept)
        self.assertEqual(shown(self.score), "voice 0 2\nvoice 0 1\nheld 1 1\nspan 1 2 0 1 -1\nback 2 1")

    def test_what_is_told_is_the_askers_own(self):
        before = [copy.deepcopy(answer()) for answer in self.answers()]
        for answer in self.answers():
            spoil(answer())
        self.assertEqual([answer() for answer in self.answers()], before)

    def test_earlier_answers_stay_behind_later_questions(self):
        told = [answer() for answer in self.answers()]
        kept = copy.deepcopy(told)
        for answer in reversed(self.answers()):
            answer()
        self.assertEqual(told, kept)

    def test_later_changes_of_what_was_handed_in(self):
        told = [answer() for answer in self.answers()]
        kept = copy.deepcopy(told)
        for given in (self.line, self.pattern, self.prices):
            given.clear()
        self.assertEqual(told, kept)

    def test_lists_of_a_score_that_was_made(self):
        ranges, rules = [(0, 2)], [read_rule("held 1 1", 1)]
        machine = Machine(Score(ranges, rules))
        ranges.append((5, 5))
        rules.append(read_rule("begin 1 9", 1))
        self.assertEqual(counted(machine, holes(1, 2)), 6)
        self.assertEqual(shown(machine.score), "voice 0 2\nheld 1 1")
        with self.assertRaises(Unfit):
            number_of(machine, holes(1, 2), [(0,), (0,)])


if __name__ == "__main__":
    unittest.main()
