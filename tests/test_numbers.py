"""Points 2, 4, 7 and 30 to 32: numbers of lines, and lines ahead and behind."""

import copy
import unittest

import plainly
from fourvoices.counts import counted
from fourvoices.errors import NoNumber, Unfit, Unlike
from fourvoices.lines import holes, read_line
from fourvoices.machine import Machine
from fourvoices.numbers import ahead, following, line_at, number_of
from fourvoices.reader import read


def cases():
    for text in plainly.SMALL:
        machine = Machine(read(text))
        for long in range(min(plainly.longest_for(text), 3) + 1):
            for pattern in plainly.patterns_for(text, long):
                yield text, machine, pattern, plainly.agreeing_lines(text, pattern)


def any_lines(text, long):
    """Lines of the score's columns and of others below, among and above them."""
    ranges = plainly.ranges_of(text)
    good = plainly.columns_of(text)
    lows = tuple(low for low, high in ranges)
    highs = tuple(high for low, high in ranges)
    others = [lows[:-1] + (lows[-1] - 1,), (lows[0] - 1,) + highs[1:], lows[:-1] + (highs[-1] + 1,), (highs[0] + 1,) + lows[1:]]
    some = good[:4] + others
    return plainly.all_lines(some if len(some) ** long <= 100 else some[1::2], long)


class LineAt(unittest.TestCase):
    def test_each_number_in_order(self):
        for text, machine, pattern, lines in cases():
            told = [line_at(machine, pattern, number) for number in range(len(lines))]
            self.assertEqual(told, lines)
            self.assertEqual(told, sorted(told))
            for line in told:
                self.assertIs(type(line), list)
                self.assertTrue(all(type(column) is tuple for column in line))

    def test_no_such_number(self):
        for text, machine, pattern, lines in cases():
            for number in (-1, -2, -10 ** 40, len(lines), len(lines) + 1, 10 ** 500):
                with self.assertRaises(NoNumber) as caught:
                    line_at(machine, pattern, number)
                self.assertEqual(caught.exception.number, number)

    def test_two_hundred_columns(self):
        machine = Machine(read("voice 0 9"))
        number = int("1234567890" * 20)
        line = [(int(figure),) for figure in "1234567890" * 20]
        self.assertEqual(line_at(machine, holes(1, 200), number), line)
        self.assertEqual(number_of(machine, holes(1, 200), line), number)
        self.assertEqual(line_at(machine, holes(1, 200), 10 ** 200 - 1), [(9,)] * 200)
        with self.assertRaises(NoNumber):
            line_at(machine, holes(1, 200), 10 ** 200)

    def test_pattern_without_columns(self):
        self.assertEqual(line_at(Machine(read("voice 0 2")), [], 0), [])
        with self.assertRaises(NoNumber):
            line_at(Machine(read("voice 0 2\ntimes 1 0 1 1")), [], 0)

    def test_line_is_the_askers_own(self):
        machine = Machine(read("voice 0 2"))
        line_at(machine, holes(1, 2), 4).clear()
        self.assertEqual(line_at(machine, holes(1, 2), 4), [(1,), (1,)])


class NumberOf(unittest.TestCase):
    def test_there_and_back(self):
        for text, machine, pattern, lines in cases():
            for number, line in enumerate(lines):
                self.assertEqual(number_of(machine, pattern, line), number)
                self.assertEqual(line_at(machine, pattern, number_of(machine, pattern, line)), line)

    def wanted(self, text, pattern, line):
        for place in range(min(len(pattern), len(line))):
            if not plainly.takes(pattern[place:place + 1], line[place:place + 1]):
                return "unlike", place
        if len(pattern) != len(line):
            return "unlike", min(len(pattern), len(line))
        found = plainly.fault_of(text, line)
        return None if found is None else ("unfit",) + found

    def told(self, machine, pattern, line):
        try:
            self.assertTrue(plainly.is_whole(number_of(machine, pattern, line)))
        except Unlike as refusal:
            return "unlike", refusal.place
        except Unfit as refusal:
            return "unfit", refusal.place, refusal.row
        return None

    def test_refusals(self):
        for text, machine, pattern, lines in cases():
            for long in {max(len(pattern) - 1, 0), len(pattern), len(pattern) + 1}:
                for line in any_lines(text, long)[::3]:
                    told, wanted = self.told(machine, pattern, line), self.wanted(text, pattern, line)
                    if told != wanted:
                        self.fail((text, pattern, line, told, wanted))

    def test_unlike_by_hand(self):
        machine = Machine(read("voice 0 3\nvoice 0 3\nspan 1 2 0"))
        pattern = read_line("1,. .,2", 2)
        for line, place in (("2,2 2,2", 0), ("1,1 2,3", 1), ("1,1", 1), ("", 0), ("1,1 2,2 3,3", 2), ("1,1 2,1 3,3", 1), ("9,9", 0)):
            with self.assertRaises(Unlike) as caught:
                number_of(machine, pattern, read_line(line, 2))
            self.assertEqual(caught.exception.place, place)
        self.assertEqual(number_of(machine, pattern, [(1, 1), (2, 2)]), 0)

    def test_unlike_comes_ahead_of_unfit(self):
        machine = Machine(read("voice 0 3\nbegin 1 0"))
        with self.assertRaises(Unlike) as caught:
            number_of(machine, [(None,), (2,)], [(9,), (3,)])
        self.assertEqual(caught.exception.place, 1)
        with self.assertRaises(Unlike) as caught:
            number_of(machine, [(None,)], [(9,), (9,)])
        self.assertEqual(caught.exception.place, 1)

    def test_unfit_by_hand(self):
        machine = Machine(read("voice 0 3\nvoice 0 3\nspan 1 2 0\nclose 1 3"))
        for line, place, row in (("1,2", 0, 2), ("1,1 4,1", 1, 0), ("1,1 1,4", 1, 1), ("1,1 2,2", 2, 3)):
            pattern = holes(2, len(line.split(" ")))
            with self.assertRaises(Unfit) as caught:
                number_of(machine, pattern, read_line(line, 2))
            self.assertEqual((caught.exception.place, caught.exception.row), (place, row))
        machine = Machine(read("voice 0 3\ntimes 1 0 1 1"))
        with self.assertRaises(Unfit) as caught:
            number_of(machine, [], [])
        self.assertEqual((caught.exception.place, caught.exception.row), (0, 1))


class Beside(unittest.TestCase):
    def test_ahead_and_following(self):
        for text, machine, pattern, lines in cases():
            for line in any_lines(text, len(pattern)) + lines:
                told = ahead(machine, pattern, line), following(machine, pattern, line)
                behind = [other for other in lines if other > line]
                wanted = sum(1 for other in lines if other < line), behind[0] if behind else None
                if told != wanted or not plainly.is_whole(told[0]):
                    self.fail((text, pattern, line, told, wanted))

    def test_by_hand(self):
        machine = Machine(read("voice 0 2\nheld 1 1"))
        pattern = [(None,), (1,)]
        self.assertEqual([ahead(machine, pattern, [(note,), (1,)]) for note in range(-1, 4)], [0, 0, 1, 1, 2])
        self.assertEqual(following(machine, pattern, [(0,), (0,)]), [(0,), (1,)])
        self.assertEqual(following(machine, pattern, [(0,), (1,)]), [(2,), (1,)])
        self.assertEqual(following(machine, pattern, [(1,), (1,)]), [(2,), (1,)])
        self.assertIsNone(following(machine, pattern, [(2,), (1,)]))
        self.assertIsNone(following(machine, pattern, [(10 ** 30,), (1,)]))
        self.assertEqual(following(machine, pattern, [(-10 ** 30,), (10 ** 30,)]), [(0,), (1,)])

    def test_columns_order_by_the_first_voice_that_differs(self):
        machine = Machine(read("voice 0 1\nvoice 0 1"))
        self.assertEqual([ahead(machine, holes(2, 1), [column]) for column in ((0, -5), (0, 5), (1, -5), (1, 1), (2, 0))],
                         [0, 2, 2, 3, 4])

    def test_line_without_columns(self):
        for text in ("voice 0 2", "voice 0 2\ntimes 1 0 1 1"):
            machine = Machine(read(text))
            self.assertEqual((ahead(machine, [], []), following(machine, [], [])), (0, None))

    def test_two_hundred_columns(self):
        machine = Machine(read("voice 0 1"))
        pattern = holes(1, 200)
        self.assertEqual(ahead(machine, pattern, [(1,)] * 200), 2 ** 200 - 1)
        self.assertEqual(ahead(machine, pattern, [(2,)] * 200), 2 ** 200)
        self.assertIsNone(following(machine, pattern, [(1,)] * 200))
        self.assertEqual(following(machine, pattern, [(0,)] + [(1,)] * 199), [(1,)] + [(0,)] * 199)
        self.assertEqual(counted(machine, pattern), 2 ** 200)

    def test_goes_through_all_lines(self):
        for text, machine, pattern, lines in cases():
            told, line = [], [tuple(low - 1 for low, high in plainly.ranges_of(text))] * len(pattern)
            if len(pattern) > 0:
                while (line := following(machine, pattern, line)) is not None:
                    told.append(line)
                self.assertEqual(told, lines)

    def test_what_is_handed_in_stays(self):
        machine = Machine(read("voice 0 2\nheld 1 1"))
        pattern, line = [(None,), (1,)], [(0,), (1,)]
        kept = copy.deepcopy((pattern, line))
        line_at(machine, pattern, 0), number_of(machine, pattern, line), ahead(machine, pattern, line)
        following(machine, pattern, line).clear()
        self.assertEqual((pattern, line), kept)


if __name__ == "__main__":
    unittest.main()
