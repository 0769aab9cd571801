"""Points 2, 4, 28 and 29: papers of counts, counts and shares."""

import copy
import unittest

import plainly
from fourvoices.counts import counted, counts_paper
from fourvoices.lines import holes, read_line
from fourvoices.machine import Machine
from fourvoices.reader import read
from fourvoices.shares import shares


def cases():
    for text in plainly.SMALL:
        machine = Machine(read(text))
        for long in range(min(plainly.longest_for(text), 4) + 1):
            for pattern in plainly.patterns_for(text, long):
                yield text, machine, pattern


def ways_on(machine, state, pattern, steps):
    """The number of ways on, gone through one by one."""
    if pattern == []:
        return 1 if machine.ends(state) else 0
    told = 0
    for column in steps:
        following = machine.to(state, column)
        if following is not None and plainly.takes(pattern[:1], [column]):
            told += ways_on(machine, following, pattern[1:], steps)
    return told


class Papers(unittest.TestCase):
    def test_form(self):
        for text, machine, pattern in cases():
            paper = counts_paper(machine, pattern)
            self.assertIs(type(paper), list)
            self.assertEqual(len(paper), len(pattern) + 1)
            for row in paper:
                self.assertIs(type(row), list)
                self.assertEqual(len(row), machine.size())
                self.assertTrue(all(plainly.is_whole(number) for number in row))
            self.assertEqual(paper[-1], [int(machine.ends(state)) for state in range(machine.size())])

    def test_each_number(self):
        for text, machine, pattern in cases():
            if len(pattern) > 3:
                continue
            steps = plainly.columns_of(text)
            wanted = [[ways_on(machine, state, pattern[place:], steps) for state in range(machine.size())]
                      for place in range(len(pattern) + 1)]
            self.assertEqual(counts_paper(machine, pattern), wanted, (text, pattern))

    def test_lists_are_the_askers_own(self):
        machine = Machine(read("voice 0 2\nheld 1 1"))
        told = counts_paper(machine, holes(1, 2))
        before = copy.deepcopy(told)
        again = counts_paper(machine, holes(1, 2))
        for row in told:
            row.clear()
        told.clear()
        self.assertEqual(again, before)
        self.assertEqual(counts_paper(machine, holes(1, 2)), before)
        row = counts_paper(machine, [])[0]
        row[0] = 77
        self.assertEqual(counts_paper(machine, []), [[1, 1, 1, 1]])


class Counts(unittest.TestCase):
    def test_held_against_all_lines(self):
        for text, machine, pattern in cases():
            told = counted(machine, pattern)
            if told != len(plainly.agreeing_lines(text, pattern)) or not plainly.is_whole(told):
                self.fail((text, pattern, told))
            self.assertEqual(counts_paper(machine, pattern)[0][0], told)

    def test_pattern_without_columns(self):
        self.assertEqual(counted(Machine(read("voice 0 2")), []), 1)
        self.assertEqual(counted(Machine(read("voice 0 2\ntimes 1 0 1 1")), []), 0)

    def test_notes_out_of_range(self):
        machine = Machine(read("voice 0 2\nvoice 0 2"))
        for given in ("3,.", ".,-1", "0,3", "9,9"):
            self.assertEqual(counted(machine, read_line(given, 2)), 0)
            self.assertEqual(counted(machine, read_line(".,. " + given, 2)), 0)
        self.assertEqual(counted(machine, read_line("2,. .,0", 2)), 9)

    def test_two_hundred_columns(self):
        self.assertEqual(counted(Machine(read("voice 0 9")), holes(1, 200)), 10 ** 200)
        self.assertEqual(counted(Machine(read("voice 0 2\nvoice 1 1\nheld 1 1")), holes(2, 200)), 3 * 2 ** 199)
        self.assertEqual(counted(Machine(read("voice 0 2\nheld 1 1")), [(1,)] + holes(1, 198) + [(3,)]), 0)
        self.assertEqual(counted(Machine(read("voice 0 1\nheld 1 1")), holes(1, 199) + [(1,)]), 1)
        # Notes held for two places at most: each count is the sum of the two ahead of it.
        wanted = [2, 4]
        while len(wanted) < 200:
            wanted.append(wanted[-1] + wanted[-2])
        machine = Machine(read("voice 0 1\nheld 1 2"))
        self.assertEqual([counted(machine, holes(1, many)) for many in (1, 2, 3, 199, 200)], wanted[:3] + wanted[-2:])
        self.assertEqual(len(counts_paper(machine, holes(1, 200))), 201)

    def test_pattern_stays(self):
        for text, machine, pattern in cases():
            before = copy.deepcopy(pattern)
            counted(machine, pattern)
            if pattern:
                shares(machine, pattern, 0, 1)
            self.assertEqual(pattern, before)


class Shares(unittest.TestCase):
    def test_held_against_all_lines(self):
        for text, machine, pattern in cases():
            lines = plainly.agreeing_lines(text, pattern)
            for place in range(len(pattern)):
                for voice, (low, high) in enumerate(plainly.ranges_of(text), 1):
                    told = shares(machine, pattern, place, voice)
                    wanted = [(note, sum(1 for line in lines if line[place][voice - 1] == note))
                              for note in range(low, high + 1)]
                    if told != wanted or type(told) is not list:
                        self.fail((text, pattern, place, voice, told, wanted))
                    if sum(number for note, number in told) != counted(machine, pattern):
                        self.fail((text, pattern, place, voice))

    def test_by_hand(self):
        machine = Machine(read("voice 0 2\nvoice 5 6\nmove 1 1"))
        pattern = read_line(".,5 .,.", 2)
        self.assertEqual(shares(machine, pattern, 0, 1), [(0, 2), (1, 2), (2, 0)])
        self.assertEqual(shares(machine, pattern, 1, 1), [(0, 0), (1, 2), (2, 2)])
        self.assertEqual(shares(machine, pattern, 0, 2), [(5, 4), (6, 0)])
        self.assertEqual(shares(machine, pattern, 1, 2), [(5, 2), (6, 2)])
        self.assertEqual(shares(machine, read_line("9,.", 2), 0, 2), [(5, 0), (6, 0)])

    def test_kinds(self):
        for pair in shares(Machine(read("voice -1 1")), holes(1, 2), 1, 1):
            self.assertIs(type(pair), tuple)
            self.assertTrue(all(plainly.is_whole(number) for number in pair))

    def test_two_hundred_columns(self):
        machine = Machine(read("voice 0 2"))
        for place in (0, 100, 199):
            self.assertEqual(shares(machine, holes(1, 200), place, 1), [(note, 3 ** 199) for note in range(3)])

    def test_list_is_the_askers_own(self):
        machine = Machine(read("voice 0 1"))
        shares(machine, holes(1, 1), 0, 1).clear()
        self.assertEqual(shares(machine, holes(1, 1), 0, 1), [(0, 1), (1, 1)])


if __name__ == "__main__":
    unittest.main()
