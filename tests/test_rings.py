"""Points 2 and 39: endless machines and their rings, heights and the longest line."""

import unittest

import plainly
from fourvoices.errors import Endless
from fourvoices.machine import Machine
from fourvoices.reader import read
from fourvoices.rings import heights, longest, ring_of

MORE = (
    "voice 0 0\nheld 1 300",
    "voice 0 0\ntimes 1 0 20 60",
    "voice 0 0\nevery 30 29 span 1 1 1",
    "voice 0 9\nmove 1 1 2 3",
    "voice 0 9\nmove 1 1 2 3\nclose 1 5",
    "voice 0 1\nheld 1 2\ntimes 1 0 2 4",
    "voice 0 1\ntimes 1 0 1 3\ntimes 1 1 2 2",
    "voice 0 4\nvoice 2 6\nspan 1 2 0 2 3 4\nalike 1 2 2 4\nback 1 1",
    "voice 0 5\nmove 1 1 -5\nbegin 1 3\nclose 1 2",
    "voice 0 5\nmove 1 1 -5\nbegin 1 3\nclose 1 2\nevery 7 3 span 1 1 0",
    "voice 0 3\nbegin 1 0\nmove 1 0 1\nclose 1 3\ntimes 1 0 5 9\ntimes 1 2 1 1",
    "voice 0 6\nbegin 1 0\nmove 1 0 1\ntimes 1 3 0 0\nclose 1 6",
    "voice 0 1\nbegin 1 1\ntimes 1 0 1 1\nmove 1 0 1",
)


def ends_by_length(machine, state, steps):
    """For each number of columns up to twice the states whether some line of so many leads to a good end."""
    told, states = [], {state}
    for long in range(2 * machine.size() + 1):
        told.append(any(machine.ends(other) for other in states))
        states = {machine.to(other, column) for other in states for column in steps} - {None}
    return told


def cases():
    for text in plainly.SMALL + MORE:
        machine = Machine(read(text))
        steps = plainly.columns_of(text)
        by_length = ends_by_length(machine, 0, steps)
        # A line of as many columns as there are states goes through some state twice.
        yield text, machine, steps, by_length, any(by_length[machine.size():])


class Rings(unittest.TestCase):
    def test_endless_ones_have_a_ring_that_fits(self):
        seen = set()
        for text, machine, steps, by_length, endless in cases():
            seen.add(endless)
            told = ring_of(machine)
            self.assertEqual(told is not None, endless, text)
            if told is None:
                continue
            self.assertIs(type(told), tuple)
            self.assertEqual(len(told), 3)
            head, ring, tail = told
            self.assertGreaterEqual(len(ring), 1)
            for piece in told:
                self.assertIs(type(piece), list)
                self.assertLessEqual(len(piece), machine.size())
                self.assertTrue(all(column in steps for column in piece))
            for often in (0, 1, 2, 3, 7):
                self.assertIsNone(plainly.fault_of(text, head + ring * often + tail), (text, told, often))
        self.assertEqual(seen, {True, False})

    def test_by_hand(self):
        self.assertEqual(ring_of(Machine(read("voice 3 3")))[1][0], (3,))
        self.assertIsNone(ring_of(Machine(read("voice 3 3\nheld 1 9"))))
        self.assertIsNone(ring_of(Machine(read("voice 0 2\ntimes 1 0 2 1"))))
        # There is a ring, but from it no line comes to a good end.
        self.assertIsNone(ring_of(Machine(read("voice 0 1\nmove 1 0 1\nbegin 1 0\nclose 1 0\ntimes 1 0 1 2"))))
        # There is a ring that ends well, but behind no good beginning.
        self.assertIsNone(ring_of(Machine(read("voice 0 2\nbegin 1 7"))))

    def test_lists_are_the_askers_own(self):
        machine = Machine(read("voice 0 2\nheld 1 1\nbegin 1 1\nclose 1 2"))
        before = ring_of(machine)
        for piece in ring_of(machine):
            piece.clear()
        self.assertEqual(ring_of(machine), before)


class Heights(unittest.TestCase):
    def test_held_against_all_lengths(self):
        for text, machine, steps, by_length, endless in cases():
            if endless:
                continue
            told = heights(machine)
            self.assertIs(type(told), list)
            self.assertEqual(len(told), machine.size())
            for state in range(0, machine.size(), 1 + machine.size() // 60):
                lengths = [long for long, ends in enumerate(ends_by_length(machine, state, steps)) if ends]
                self.assertEqual(told[state], max(lengths, default=None), (text, state))
            self.assertEqual(longest(machine), max([long for long, ends in enumerate(by_length) if ends], default=-1), text)
            self.assertTrue(plainly.is_whole(longest(machine)))
            self.assertIsNone(ring_of(machine))

    def test_endless(self):
        many = 0
        for text, machine, steps, by_length, endless in cases():
            if endless:
                many += 1
                with self.assertRaises(Endless):
                    heights(machine)
                with self.assertRaises(Endless):
                    longest(machine)
        self.assertGreater(many, 5)

    def test_longest_by_hand(self):
        for text, wanted in (
            ("voice 0 2\nmove 1 1", 3), ("voice 0 0\nheld 1 300", 300), ("voice 0 0\ntimes 1 0 20 60", 60),
            ("voice 0 2\nbegin 1 7", 0), ("voice 0 2\nspan 1 1 1", 0), ("voice 0 2\ntimes 1 0 2 1", -1),
            ("voice 0 2\nspan 1 1 1\ntimes 1 0 1 1", -1), ("voice 0 9\nmove 1 1\nclose 1 4", 5),
            ("voice 0 9\nmove 1 1 2\nbegin 1 3\nclose 1 8 9", 7), ("voice 0 0\nevery 30 29 span 1 1 1", 29),
            ("voice 0 2\nclose 1 9", 0), ("voice 0 9\nback 1 0\nheld 1 1", 1), ("voice 0 0\ntimes 1 0 1 1", 1),
        ):
            with self.subTest(text=text):
                self.assertEqual(longest(Machine(read(text))), wanted)

    def test_heights_by_hand(self):
        machine = Machine(read("voice 0 3\nmove 1 1\nclose 1 2"))
        told = heights(machine)
        self.assertEqual(told[0], 3)
        self.assertEqual([told[machine.walk([(note,)])] for note in range(4)], [2, 1, 0, None])
        machine = Machine(read("voice 0 2\ntimes 1 0 2 1"))
        self.assertEqual(heights(machine), [None] * machine.size())

    def test_list_is_the_askers_own(self):
        machine = Machine(read("voice 0 2\nmove 1 1"))
        before = heights(machine)
        heights(machine).clear()
        self.assertEqual(heights(machine), before)
        self.assertEqual(longest(machine), 3)


if __name__ == "__main__":
    unittest.main()
