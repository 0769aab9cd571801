"""Points 2 and 38: pairs of two machines, and the line that parts them."""

import itertools
import unittest

import plainly
from fourvoices.errors import Apart
from fourvoices.folds import Folding
from fourvoices.machine import Machine
from fourvoices.parts import pairs, parted
from fourvoices.reader import read

OTHERS = (
    "voice 1 3", "voice 0 2\nheld 1 1", "voice 0 2\nheld 1 4", "voice 2 2", "voice 9 9\nheld 1 2", "voice 0 1\nvoice 1 2",
    "voice 5 6\nvoice 6 7\nspan 1 2 0 1 2 3", "voice 5 6\nvoice 6 7\nspan 1 2 0 1 2\nheld 1 3",
)


def machines():
    return [(text, Machine(read(text))) for text in plainly.SMALL + OTHERS]


def both(one, other):
    return sorted(set(plainly.columns_of(one) + plainly.columns_of(other)))


def pairs_by_lines(one, other, steps):
    """Pairs met by all lines, one column longer at a time, until no new pair comes."""
    met, last = {(0, 0)}, {(0, 0)}
    while last:
        found = set()
        for first, second in last:
            for column in steps:
                found.add((None if first is None else one.to(first, column),
                           None if second is None else other.to(second, column)))
        last = found - met - {(None, None)}
        met |= last
    return met


def as_many_voices():
    for (one, first), (other, second) in itertools.product(machines(), repeat=2):
        if len(first.score.ranges) == len(second.score.ranges):
            yield one, first, other, second


class Pairs(unittest.TestCase):
    def test_each_pair_once(self):
        for one, first, other, second in as_many_voices():
            told = pairs(first, second)
            wanted = pairs_by_lines(first, second, both(one, other))
            self.assertIs(type(told), list)
            self.assertEqual(len(told), len(set(told)), (one, other))
            self.assertEqual(set(told), wanted, (one, other))
            self.assertTrue(all(type(pair) is tuple for pair in told))

    def test_by_hand(self):
        one, other = Machine(read("voice 0 0")), Machine(read("voice 1 1"))
        self.assertEqual(sorted(pairs(one, other), key=str), [(0, 0), (1, None), (None, 1)])
        one, other = Machine(read("voice 0 0\nheld 1 1")), Machine(read("voice 0 0\nheld 1 2"))
        self.assertEqual(sorted(pairs(one, other), key=str), [(0, 0), (1, 1), (None, 2)])
        self.assertEqual(sorted(pairs(other, one), key=str), [(0, 0), (1, 1), (2, None)])
        self.assertEqual(pairs(Machine(read("voice 0 0\nspan 1 1 1")), Machine(read("voice 0 0\nbegin 1 7"))), [(0, 0)])

    def test_with_itself(self):
        for text, machine in machines():
            self.assertEqual(sorted(pairs(machine, machine)), [(state, state) for state in range(machine.size())])

    def test_list_is_the_askers_own(self):
        one, other = Machine(read("voice 0 0")), Machine(read("voice 1 1"))
        pairs(one, other).clear()
        self.assertEqual(len(pairs(one, other)), 3)


class Parted(unittest.TestCase):
    def fits_one(self, one, other, line):
        return (plainly.fault_of(one, line) is None) != (plainly.fault_of(other, line) is None)

    def test_shortest_and_first(self):
        for one, first, other, second in as_many_voices():
            told = parted(first, second)
            steps = both(one, other)
            if told is not None:
                self.assertIs(type(told), list)
                self.assertTrue(self.fits_one(one, other, told), (one, other, told))
            for long in range(6):
                if len(steps) ** long > 250:
                    break
                found = next((line for line in plainly.all_lines(steps, long) if self.fits_one(one, other, line)), None)
                if found is not None:
                    self.assertEqual(told, found, (one, other))
                    break
                self.assertFalse(told is not None and len(told) == long)

    def test_none_just_where_the_tables_are_the_same(self):
        for one, first, other, second in as_many_voices():
            same = Folding(first).table() == Folding(second).table()
            self.assertEqual(parted(first, second) is None, same, (one, other))

    def of(self, one, other):
        return parted(Machine(read(one)), Machine(read(other)))

    def test_by_hand(self):
        self.assertEqual(self.of("voice 0 2", "voice 0 3"), [(3,)])
        self.assertEqual(self.of("voice 1 2", "voice 0 3"), [(0,)])
        self.assertEqual(self.of("voice 0 2\ntimes 1 0 1 1", "voice 0 2"), [])
        self.assertEqual(self.of("voice 0 2\nheld 1 1", "voice 0 2\nheld 1 2"), [(0,), (0,)])
        self.assertEqual(self.of("voice 0 2\nclose 1 1 2", "voice 0 2\nclose 1 2 1 1"), None)
        self.assertEqual(self.of("voice 0 1\nheld 1 20", "voice 0 1\nheld 1 21"), [(0,)] * 21)
        self.assertEqual(self.of("voice 0 1\nevery 9 8 span 1 1 0", "voice 0 1\nevery 9 8 span 1 1 1"), [(0,)] * 9)
        self.assertEqual(self.of("voice 0 2\nbegin 1 7", "voice 4 9\nbegin 1 1"), None)
        self.assertEqual(self.of("voice 0 1\nvoice 0 1\nspan 1 2 0", "voice 0 1\nvoice 0 1\nspan 1 2 0 1"), [(0, 1)])

    def test_line_is_the_askers_own(self):
        one, other = Machine(read("voice 0 2")), Machine(read("voice 0 3"))
        parted(one, other).clear()
        self.assertEqual(parted(one, other), [(3,)])


class Voices(unittest.TestCase):
    def test_unlike_numbers_of_voices(self):
        made = [Machine(read("\n".join(["voice 0 1"] * many))) for many in range(1, 5)]
        for one, other in itertools.permutations(made, 2):
            for asked in (pairs, parted):
                with self.assertRaises(Apart) as caught:
                    asked(one, other)
                self.assertEqual(caught.exception.voice, 0)


if __name__ == "__main__":
    unittest.main()
