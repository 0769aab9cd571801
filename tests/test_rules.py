"""Points 10 to 20 and 22: rules along lines, each kind by its own words."""

import copy
import itertools
import unittest

import plainly
from fourvoices.rulereader import read_rule
from fourvoices.rules import Rule, broken_at

GREAT = 10 ** 29 + 7
HUGE = 10 ** 38 + 3

# Rows for one voice whose notes are -1, 0, 1; the like stands for each number of voices below.
ONE_VOICE = (
    "span 1 1 0", "span 1 1 1 2", "span 1 1 -1 0 1", "clock 1 1 1 0", "clock 1 1 7 0", "clock 1 1 7 7", "clock 1 1 7 1 2",
    "move 1 0", "move 1 1 -1", "move 1 -2 2", "move 1 3", "alike 1 1 0", "alike 1 1 1 2", "back 1 0", "back 1 1", "back 1 2",
    "back 1 9", "held 1 1", "held 1 2", "held 1 3", "held 1 9", "times 1 0 0 0", "times 1 0 1 2", "times 1 1 2 1",
    "times 1 -1 0 2", "times 1 5 0 0", "times 1 5 1 3", "times 1 0 3 9", "begin 1 0", "begin 1 -1 1", "begin 1 7",
    "close 1 0", "close 1 -1 1", "close 1 7", "every 1 0 span 1 1 0", "every 1 0 span 1 1 3", "every 2 0 span 1 1 3",
    "every 2 1 span 1 1 3", "every 3 2 clock 1 1 5 1", "every 9 8 span 1 1 1",
)
TWO_VOICES = (
    "span 1 2 0 1", "span 2 1 -1", "span 2 2 0", "clock 1 2 2 1", "clock 2 1 3 2 0", "clock 1 2 3 -1", "clock 1 2 3 1",
    "move 2 0 1", "move 1 -1 0", "alike 1 2 0", "alike 2 1 1 -1", "alike 1 2 2 0 -2", "alike 2 2 0", "alike 1 2 9",
    "back 2 0", "back 1 1", "held 2 1", "held 2 2", "times 2 1 1 1", "times 1 0 0 2", "begin 2 0", "close 2 1",
    "every 2 0 span 1 2 0", "every 2 1 span 2 1 0 1", "every 3 1 clock 1 2 2 0", "every 1 0 clock 2 1 3 1 2",
)
MORE_VOICES = (
    "span {a} {b} 0 1 2", "clock {a} {b} 3 0 2", "move {a} -1 0 1", "alike {a} {b} 0 1 -1", "back {a} 1", "back {b} 0",
    "held {a} 1", "held {b} 2", "times {a} 1 1 2", "times {b} 0 0 1", "begin {a} 0 1", "close {b} 1 2",
    "every 2 1 span {a} {b} 0 1", "every 3 0 clock {b} {a} 2 0",
)


def some_lines(voices, long):
    """Lines picked without chance: the notes from 0 to 2 turn at another pace for each voice."""
    for pace in range(1, 40):
        yield [tuple((place * pace + voice * place * place + pace // 3) % (3 + voice % 2) for voice in range(voices))
               for place in range(long)]


def cases():
    for row in ONE_VOICE:
        for long in range(6):
            for line in plainly.all_lines([(-1,), (0,), (1,)], long):
                yield row, 1, line
    for row in TWO_VOICES:
        for long in range(5):
            for line in plainly.all_lines(list(itertools.product((0, 1), repeat=2)), long):
                yield row, 2, line
        for line in some_lines(2, 7):
            yield row, 2, line
    for voices in (3, 4):
        for a, b in itertools.product(range(1, voices + 1), repeat=2):
            for shape in MORE_VOICES:
                for long in (0, 1, 2, 6):
                    for line in some_lines(voices, long):
                        yield shape.format(a=a, b=b), voices, line


class Words(unittest.TestCase):
    """Each kind held against a plain reading of its point, over many lines."""

    def test_broken_at_is_the_first_place(self):
        for row, voices, line in cases():
            wanted = plainly.first_broken(row, line)
            told = broken_at(read_rule(row, voices), line)
            if told != wanted or not (told is None or plainly.is_whole(told)):
                self.fail((row, line, told, wanted))

    def test_going_along(self):
        for row, voices, line in cases():
            rule = read_rule(row, voices)
            memory, before, size = rule.start(), None, rule.size()
            for place, column in enumerate(line + [None]):
                closes = rule.closes(memory, before)
                held = (plainly.is_whole(memory), 0 <= memory < size, closes)
                if held != (True, True, not plainly.broken_at_close(row, line[:place])):
                    self.fail((row, line, place, memory, closes))
                if column is None:
                    break
                memory = rule.after(memory, before, column)
                if (memory is None) != plainly.broken_there(row, line, place):
                    self.fail((row, line, place, memory))
                if memory is None:
                    break
                before = column

    def test_closes_tells_true_or_false(self):
        for row in ONE_VOICE:
            rule = read_rule(row, 1)
            memory = rule.start()
            self.assertIsInstance(rule.closes(memory, None), bool)
            memory = rule.after(memory, None, (0,))
            if memory is not None:
                self.assertIsInstance(rule.closes(memory, (0,)), bool)


class ByTurns(unittest.TestCase):
    def alone(self, rule, line):
        told, memory, before = [], rule.start(), None
        for column in line:
            told.append((memory, rule.closes(memory, before)))
            memory = rule.after(memory, before, column)
            if memory is None:
                return told + [None]
            before = column
        return told + [(memory, rule.closes(memory, before))]

    def test_two_lines_by_turns(self):
        ends = [[(0,), (1,), (1,), (0,), (0,), (1,)], [(1,), (0,), (1,), (1,), (0,), (-1,)], [(0,), (0,), (0,), (2,)]]
        for row in ONE_VOICE:
            for lines in itertools.permutations(ends, 2):
                rule = read_rule(row, 1)
                told = [[], []]
                memories, befores = [rule.start(), rule.start()], [None, None]
                for place in range(7):
                    for turn, line in enumerate(lines):
                        if place > len(line) or None in told[turn]:
                            continue
                        told[turn].append((memories[turn], rule.closes(memories[turn], befores[turn])))
                        if place < len(line):
                            memories[turn] = rule.after(memories[turn], befores[turn], line[place])
                            befores[turn] = line[place]
                            if memories[turn] is None:
                                told[turn].append(None)
                for turn, line in enumerate(lines):
                    self.assertEqual(told[turn], self.alone(read_rule(row, 1), line), row)

    def test_asked_twice_the_answer_is_the_same(self):
        for row in TWO_VOICES:
            rule = read_rule(row, 2)
            for line in some_lines(2, 6):
                self.assertEqual(broken_at(rule, line), broken_at(rule, line))
                self.assertEqual(broken_at(rule, line), broken_at(read_rule(row, 2), line))

    def test_what_is_handed_in_stays(self):
        for row, voices, line in itertools.islice(cases(), 0, None, 97):
            before = copy.deepcopy(line)
            broken_at(read_rule(row, voices), line)
            self.assertEqual(line, before)


class Kinds(unittest.TestCase):
    """Places told one by one, as the points have them."""

    def broken(self, row, notes, wanted, voices=1):
        line = [(note,) if isinstance(note, int) else note for note in notes]
        with self.subTest(row=row, notes=notes):
            self.assertEqual(broken_at(read_rule(row, voices), line), wanted)

    def test_all_are_rules(self):
        for row in ONE_VOICE:
            self.assertIsInstance(read_rule(row, 1), Rule)

    def test_span(self):
        self.broken("span 1 2 3 4", [(60, 63), (60, 64), (61, 64)], None, 2)
        self.broken("span 1 2 3 4", [(60, 63), (60, 65)], 1, 2)
        self.broken("span 1 2 3 4", [(63, 60)], 0, 2)
        self.broken("span 2 1 -3", [(60, 63), (63, 60)], 1, 2)
        self.broken("span 1 2 3", [], None, 2)
        self.broken("span 4 3 1", [(0, 0, 6, 5), (0, 0, 5, 6)], 1, 4)
        self.broken("span 1 1 0", [5, 6], None)
        self.broken("span 1 1 1", [5, 6], 0)
        self.broken("span 1 1 1", [], None)

    def test_clock(self):
        self.broken("clock 1 2 12 0 7", [(60, 67), (60, 72), (60, 79), (67, 60)], 3, 2)
        self.broken("clock 1 2 12 5", [(67, 60), (7, -12)], None, 2)
        self.broken("clock 1 2 12 7", [(67, 60)], 0, 2)
        self.broken("clock 1 2 1 0", [(3, 9), (9, 3), (-4, 4)], None, 2)
        self.broken("clock 1 2 1 1", [(3, 9)], 0, 2)
        self.broken("clock 1 2 3 3 -1", [(0, 3)], 0, 2)
        self.broken("clock 1 2 3 3 -1", [(0, 2)], 0, 2)
        self.broken("clock 1 2 3 -1 2", [(0, -1)], None, 2)
        self.broken(f"clock 1 2 {HUGE} {HUGE - 1}", [(1, 0), (0, HUGE - 1), (0, -HUGE - 1)], None, 2)
        self.broken(f"clock 1 2 {HUGE} {HUGE - 1}", [(1, 0), (0, HUGE)], 1, 2)

    def test_move(self):
        self.broken("move 1 1 -1", [7, 8, 7, 6, 6], 4)
        self.broken("move 1 1 -1", [7, 9], 1)
        self.broken("move 1 1 -1", [70000], None)
        self.broken("move 1 5", [], None)
        self.broken("move 2 0", [(1, 5), (2, 5), (3, 6)], 2, 2)

    def test_alike(self):
        self.broken("alike 1 2 7", [(0, 7), (2, 9)], 1, 2)
        self.broken("alike 1 2 7", [(0, 7), (0, 7), (2, 9)], 2, 2)
        self.broken("alike 1 2 7", [(0, 7), (0, 7), (2, 8), (1, 8)], None, 2)
        self.broken("alike 1 2 7", [(0, 7)], None, 2)
        self.broken("alike 1 2 7", [(0, 5), (1, 6), (2, 7)], None, 2)
        self.broken("alike 1 2 7 -7", [(0, -7), (-1, -8)], 1, 2)
        self.broken("alike 2 1 7", [(0, 7), (2, 9)], None, 2)
        self.broken("alike 1 1 0", [3, 3, 4], 2)
        self.broken("alike 1 1 1", [3, 3, 4], None)

    def test_back(self):
        self.broken("back 1 2", [0, 3, 2], None)
        self.broken("back 1 2", [0, 3, 3, 2], 2)
        self.broken("back 1 2", [0, 3, 4], 2)
        self.broken("back 1 2", [0, -3, -2], None)
        self.broken("back 1 2", [0, -3, -3], 2)
        self.broken("back 1 2", [0, -3, -4], 2)
        self.broken("back 1 2", [0, 2, 4, 6, 6, 4, 2], None)
        self.broken("back 1 2", [0, 3], 2)
        self.broken("back 1 2", [0, -3], 2)
        self.broken("back 1 2", [9], None)
        self.broken("back 1 2", [], None)
        self.broken("back 1 2", [0, 5, 0, 5], 4)
        self.broken("back 1 2", [0, 5, 0, 1], None)
        self.broken("back 1 0", [0, 1, 0], 3)
        self.broken("back 1 0", [0, 1, 1], 2)
        self.broken("back 1 0", [0, 0, 0], None)
        self.broken("back 1 0", [0, -1, -2], 2)
        self.broken("back 1 0", [0, -1, 0, 0], 3)

    def test_held(self):
        self.broken("held 1 1", [4, 4], 1)
        self.broken("held 1 1", [4, 5, 4, 5, 5], 4)
        self.broken("held 1 3", [4, 4, 4], None)
        self.broken("held 1 3", [4, 4, 4, 4], 3)
        self.broken("held 1 3", [4, 4, 5, 4, 4, 4, 4], 6)
        self.broken("held 1 3", [4, 4, 4, 5, 5, 5, 4, 4, 4], None)
        self.broken("held 1 1", [4], None)
        self.broken("held 1 1", [], None)
        self.broken(f"held 1 {HUGE}", [4] * 200, None)
        self.broken("held 1 200", [4] * 200, None)
        self.broken("held 1 199", [4] * 200, 199)
        self.broken("held 2 1", [(1, 1), (1, 2), (1, 2)], 2, 2)

    def test_times(self):
        self.broken("times 1 5 1 2", [5, 5], None)
        self.broken("times 1 5 1 2", [5, 4, 5, 4, 5], 4)
        self.broken("times 1 5 1 2", [4, 4, 4], 3)
        self.broken("times 1 5 1 2", [], 0)
        self.broken("times 1 5 0 0", [], None)
        self.broken("times 1 5 0 0", [4, 5], 1)
        self.broken("times 1 5 3 1", [5, 5], 1)
        self.broken("times 1 5 3 1", [5, 4], 2)
        self.broken("times 1 5 3 1", [], 0)
        self.broken(f"times 1 5 0 {HUGE}", [5] * 200, None)
        self.broken(f"times 1 5 {HUGE} {HUGE}", [5] * 200, 200)
        self.broken(f"times 1 {GREAT} 1 1", [0, GREAT, -GREAT], None)

    def test_begin_and_close(self):
        self.broken("begin 1 5 6", [6, 0, 0], None)
        self.broken("begin 1 5 6", [4, 5], 0)
        self.broken("begin 1 5 6", [], None)
        self.broken("close 1 5 6", [0, 0, 6], None)
        self.broken("close 1 5 6", [6, 0], 2)
        self.broken("close 1 5 6", [4], 1)
        self.broken("close 1 5 6", [], None)
        self.broken("begin 2 5", [(5, 4)], 0, 2)
        self.broken("close 2 5", [(5, 4)], 1, 2)

    def test_every(self):
        self.broken("every 1 0 span 1 2 0", [(1, 1), (1, 2)], 1, 2)
        self.broken("every 2 0 span 1 2 0", [(1, 1), (1, 2), (1, 1), (1, 2)], None, 2)
        self.broken("every 2 0 span 1 2 0", [(1, 1), (1, 2), (1, 2)], 2, 2)
        self.broken("every 2 1 span 1 2 0", [(1, 2), (1, 1), (1, 2), (1, 2)], 3, 2)
        self.broken("every 3 2 clock 1 2 12 0", [(1, 2), (1, 2), (13, 1), (1, 2), (1, 2), (1, 2)], 5, 2)
        self.broken(f"every {HUGE} 0 span 1 1 1", [0], 0)
        self.broken(f"every {HUGE} {HUGE - 1} span 1 1 1", [0] * 200, None)
        self.broken("every 2 0 span 1 1 1", [], None)

    def test_notes_of_thirty_figures(self):
        for sign in (1, -1):
            far = sign * GREAT
            self.broken(f"span 1 2 {2 * far}", [(-far, far), (far, -far)], 1, 2)
            self.broken("clock 1 2 10 4", [(-GREAT, GREAT), (GREAT, -GREAT)], 1, 2)
            self.broken(f"move 1 {far}", [0, far, 2 * far, 0], 3)
            self.broken(f"alike 1 2 {far}", [(0, far), (far, 2 * far)], 1, 2)
            self.broken(f"back 1 {GREAT - 1}", [0, far, 2 * far], 2)
            self.broken(f"back 1 {GREAT}", [0, far, 2 * far], None)
            self.broken("held 1 2", [far, far, far + 1, far, far, far], 5)
            self.broken(f"times 1 {far} 0 1", [far, -far, far], 2)
            self.broken(f"begin 1 {far}", [far], None)
            self.broken(f"begin 1 {far}", [-far], 0)
            self.broken(f"close 1 {far}", [0, far], None)
            self.broken(f"close 1 {far}", [far, far + 1], 2)
            self.broken(f"every 2 1 span 1 2 {far}", [(0, 0), (far, 2 * far), (0, 0), (far, far)], 3, 2)


if __name__ == "__main__":
    unittest.main()
