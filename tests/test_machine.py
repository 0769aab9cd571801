"""Points 2, 4 and 27: the machine of a score."""

import copy
import unittest

import plainly
from fourvoices.counts import counted, counts_paper
from fourvoices.lines import holes
from fourvoices.machine import Machine
from fourvoices.numbers import following, line_at
from fourvoices.reader import read, shown
from fourvoices.scores import columns, fault, weight

FAR = 10 ** 39

# Scores as wide as they may be, or nearly so.
WIDE = (
    "voice 0 0\nheld 1 400",
    "voice 0 0\ntimes 1 0 0 399",
    "voice 0 0\ntimes 1 0 400 399",
    "voice 0 0\nevery 400 399 span 1 1 1",
    "voice 0 0\nevery 200 7 span 1 1 0\nheld 1 2",
    "voice 0 1\nheld 1 40\nevery 5 4 span 1 1 0",
    f"voice {FAR} {FAR + 3}\ntimes 1 {FAR} 2 9\nevery 10 3 clock 1 1 {FAR} 0",
    f"voice -{FAR} -{FAR - 9}\nmove 1 1 -1\nback 1 0",
    "voice 0 19\nvoice 0 19",
    "voice 0 9\nvoice 0 9\nspan 1 2 0 3 4 7\nalike 1 2 0 7\nback 1 2",
)


def walked(machine, line):
    state = 0
    for column in line:
        state = machine.to(state, column)
        if state is None:
            return None
    return state


def states_met(machine, steps):
    met, place = [0], 0
    while place < len(met):
        for column in steps:
            state = machine.to(met[place], column)
            if state is not None and state not in met:
                met.append(state)
        place += 1
    return met


class Walks(unittest.TestCase):
    def hold(self, text, machine, line):
        place = plainly.fault_of(text, line)
        for long in range(len(line) + 1):
            state = machine.walk(line[:long])
            if state != walked(machine, line[:long]):
                self.fail((text, line, long))
            lost = place is not None and place[0] < long
            if (state is None) != lost:
                self.fail((text, line, long, state))
        if state is not None and machine.ends(state) is not (place is None):
            self.fail((text, line, state))

    def test_ends_where_the_faults_say(self):
        for text in plainly.SMALL:
            machine = Machine(read(text))
            for long in range(plainly.longest_for(text) + 1):
                for line in plainly.all_lines(plainly.columns_of(text), long):
                    self.hold(text, machine, line)

    def test_notes_out_of_the_ranges(self):
        for text in plainly.SMALL:
            machine = Machine(read(text))
            good = plainly.columns_of(text)
            ranges = plainly.ranges_of(text)
            for voice, (low, high) in enumerate(ranges):
                for note in (low - 1, high + 1):
                    wrong = good[0][:voice] + (note,) + good[0][voice + 1:]
                    for state in range(machine.size()):
                        self.assertIsNone(machine.to(state, wrong))
                    for line in ([wrong], good[:2] + [wrong], [wrong] + good[:2], good[:1] + [wrong] + good[-1:]):
                        self.hold(text, machine, line)

    def test_line_without_columns(self):
        for text in plainly.SMALL + WIDE:
            machine = Machine(read(text))
            self.assertEqual(machine.walk([]), 0)
            self.assertIs(machine.ends(0), plainly.fault_of(text, []) is None)

    def test_long_lines(self):
        for text in WIDE:
            machine = Machine(read(text))
            steps = plainly.columns_of(text)
            for pace in (0, 1, 2, 3):
                for long in (1, 2, 39, 40, 41, 200):
                    self.hold(text, machine, [steps[(place * pace) % len(steps)] for place in range(long)])

    def test_great_numbers_of_places(self):
        machine = Machine(read("voice 0 0\nheld 1 400"))
        self.assertIsNotNone(machine.walk([(0,)] * 400))
        self.assertIsNone(machine.walk([(0,)] * 401))
        machine = Machine(read("voice 0 0\ntimes 1 0 399 399"))
        self.assertEqual([machine.ends(machine.walk([(0,)] * many)) for many in (398, 399)], [False, True])
        self.assertIsNone(machine.walk([(0,)] * 400))
        machine = Machine(read("voice 0 0\nevery 400 399 span 1 1 1"))
        self.assertTrue(machine.ends(machine.walk([(0,)] * 399)))
        self.assertIsNone(machine.walk([(0,)] * 400))


class States(unittest.TestCase):
    def test_no_more_than_the_weight_and_one(self):
        for text in plainly.SMALL + WIDE:
            score = read(text)
            size = Machine(score).size()
            self.assertTrue(plainly.is_whole(size))
            self.assertTrue(1 <= size <= weight(score) + 1, (text, size))

    def test_to_each_state_some_line_leads(self):
        for text in plainly.SMALL + WIDE:
            machine = Machine(read(text))
            self.assertEqual(sorted(states_met(machine, plainly.columns_of(text))), list(range(machine.size())))

    def test_answers_are_of_their_kinds(self):
        for text in plainly.SMALL:
            machine = Machine(read(text))
            for state in range(machine.size()):
                self.assertIsInstance(machine.ends(state), bool)
                for column in plainly.columns_of(text):
                    told = machine.to(state, column)
                    self.assertTrue(told is None or plainly.is_whole(told) and 0 <= told < machine.size())

    def test_field(self):
        score = read("voice 0 1\nheld 1 1")
        self.assertIs(Machine(score).score, score)


class Same(unittest.TestCase):
    def told(self, machine, steps):
        states = range(machine.size())
        return [machine.ends(state) for state in states], [[machine.to(state, step) for step in steps] for state in states]

    def test_whatever_is_asked_between(self):
        for text in plainly.SMALL:
            machine = Machine(read(text))
            steps = plainly.columns_of(text)
            before = self.told(machine, steps)
            voices = len(machine.score.ranges)
            counts_paper(machine, holes(voices, 3)).clear()
            if counted(machine, holes(voices, 2)):
                line_at(machine, holes(voices, 2), 0).clear()
            following(machine, holes(voices, 2), [steps[0], steps[0]])
            machine.walk(steps[:2] * 3)
            fault(machine.score, steps)
            columns(machine.score).clear()
            self.assertEqual(self.told(machine, steps), before)

    def test_two_machines_beside_one_another(self):
        for one, other in zip(plainly.SMALL, plainly.SMALL[1:]):
            first, steps = Machine(read(one)), plainly.columns_of(one)
            before = self.told(first, steps)
            second = Machine(read(other))
            second.walk(plainly.columns_of(other) * 2)
            self.assertEqual(self.told(first, steps), before)
            self.assertEqual(self.told(Machine(read(one)), steps), before)

    def test_two_machines_of_one_score(self):
        score = read("voice 0 2\nback 1 1\nheld 1 2")
        one, other = Machine(score), Machine(score)
        one.walk([(0,), (1,), (1,), (1,)])
        self.assertEqual(self.told(one, columns(score)), self.told(other, columns(score)))

    def test_what_is_handed_in_stays(self):
        score = read("voice 0 2\nback 1 1\nheld 1 2")
        line = [(0,), (1,), (9,)]
        before = copy.deepcopy(line)
        Machine(score).walk(line)
        self.assertEqual(line, before)
        self.assertEqual(shown(score), "voice 0 2\nback 1 1\nheld 1 2")


if __name__ == "__main__":
    unittest.main()
