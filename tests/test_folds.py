"""Points 2, 4, 36 and 37: the folding of a machine, its table and its tails."""

import itertools
import unittest

import plainly
from fourvoices.folds import Folding
from fourvoices.machine import Machine
from fourvoices.reader import read

MORE = (
    "voice 0 0\nheld 1 40",
    "voice 0 0\ntimes 1 0 20 60",
    "voice 0 0\nevery 30 29 span 1 1 1",
    "voice 0 1\nevery 6 5 span 1 1 1\nheld 1 3",
    "voice 0 3\ntimes 1 0 2 2\ntimes 1 1 1 2",
    "voice 0 4\nvoice 2 6\nspan 1 2 0 2 3 4\nalike 1 2 2 4\nback 1 1",
    "voice 0 2\nvoice 0 2\nback 1 0\nback 2 1",
)


def alive_in(machine, steps):
    """States from which some line leads to one that ends well, by going over all states again and again."""
    states = range(machine.size())
    alive = {state for state in states if machine.ends(state)}
    while True:
        more = {state for state in states if any(machine.to(state, column) in alive for column in steps)} | alive
        if more == alive:
            return alive
        alive = more


def unlike_in(machine, steps, alive):
    """Pairs of alive states that some line parts, by filling in a table of pairs."""
    unlike = {(one, other) for one in alive for other in alive if machine.ends(one) != machine.ends(other)}
    while True:
        before = len(unlike)
        for one, other in itertools.product(alive, repeat=2):
            for column in steps:
                first, second = machine.to(one, column), machine.to(other, column)
                first, second = first if first in alive else None, second if second in alive else None
                if (first is None) != (second is None) or (first, second) in unlike:
                    unlike.add((one, other))
        if len(unlike) == before:
            return unlike


def ends_from(thing, state, line):
    for column in line:
        state = thing.to(state, column)
        if state is None:
            return False
    return thing.ends(state)


def lines_up_to(steps, most):
    """All lines, shorter ones first, until there are too many of them."""
    for long in itertools.count():
        if len(steps) ** long > most or long > 60:
            return
        for line in itertools.product(steps, repeat=long):
            yield list(line)


def cases(texts=plainly.SMALL + MORE):
    for text in texts:
        machine = Machine(read(text))
        yield text, machine, Folding(machine), plainly.columns_of(text)


class States(unittest.TestCase):
    def test_a_state_for_each_set_of_alike_ones(self):
        for text, machine, folding, steps in cases():
            alive = alive_in(machine, steps)
            unlike = unlike_in(machine, steps, alive)
            for state in range(machine.size()):
                home = folding.home(state)
                self.assertEqual(home is not None, state in alive, text)
                if home is not None:
                    self.assertTrue(plainly.is_whole(home) and 0 <= home < folding.size())
            for one, other in itertools.product(alive, repeat=2):
                self.assertEqual(folding.home(one) == folding.home(other), (one, other) not in unlike, (text, one, other))
            self.assertEqual(sorted({folding.home(state) for state in alive}), list(range(folding.size())))

    def test_where_columns_lead(self):
        for text, machine, folding, steps in cases():
            for state in range(machine.size()):
                home = folding.home(state)
                if home is None:
                    continue
                self.assertIs(folding.ends(home), machine.ends(state))
                for column in steps:
                    target = machine.to(state, column)
                    self.assertEqual(folding.to(home, column), None if target is None else folding.home(target))

    def test_numbering(self):
        for text, machine, folding, steps in cases():
            met, place = [0][:folding.size()], 0
            while place < len(met):
                for column in steps:
                    state = folding.to(met[place], column)
                    if state is not None and state not in met:
                        met.append(state)
                place += 1
            self.assertEqual(met, list(range(folding.size())), text)
            self.assertEqual(folding.home(0), 0 if folding.size() else None)

    def test_column_that_is_none(self):
        for text, machine, folding, steps in cases():
            ranges = plainly.ranges_of(text)
            for state in range(folding.size()):
                self.assertIsNone(folding.to(state, tuple(low - 1 for low, high in ranges)))
                self.assertIsNone(folding.to(state, tuple(high + 1 for low, high in ranges)))

    def test_takes_the_same_lines(self):
        for text, machine, folding, steps in cases(plainly.SMALL):
            for line in lines_up_to(steps, 300):
                fits = folding.size() > 0 and ends_from(folding, 0, line)
                self.assertEqual(fits, plainly.fault_of(text, line) is None)

    def test_start_that_is_not_alive(self):
        for text in ("voice 0 2\ntimes 1 0 2 1", "voice 0 1\ntimes 1 7 1 9", "voice 0 1\nspan 1 1 5\ntimes 1 0 1 1"):
            machine = Machine(read(text))
            folding = Folding(machine)
            self.assertEqual((folding.size(), folding.table()), (0, []))
            self.assertEqual([folding.home(state) for state in range(machine.size())], [None] * machine.size())

    def test_by_hand(self):
        # Notes of one voice without rules: each state is like the start.
        machine = Machine(read("voice 0 3"))
        folding = Folding(machine)
        self.assertEqual(folding.size(), 1)
        self.assertEqual([folding.home(state) for state in range(machine.size())], [0] * 5)
        # Up by one alone, to the close on 2: behind 3 nothing is alive.
        machine = Machine(read("voice 0 3\nmove 1 1\nclose 1 2\nheld 1 1"))
        folding = Folding(machine)
        self.assertEqual(folding.table(), [
            (True, [((0,), 1), ((1,), 2), ((2,), 3)]), (False, [((1,), 2)]), (False, [((2,), 3)]), (True, [])])
        self.assertIsNone(folding.home(machine.walk([(3,)])))
        self.assertIsNone(folding.to(0, (3,)))
        self.assertIsNone(folding.to(3, (3,)))

    def test_what_is_folded_stays(self):
        for text, machine, folding, steps in cases():
            fresh = Machine(read(text))
            states = range(fresh.size())
            self.assertEqual(machine.size(), fresh.size())
            self.assertEqual([machine.ends(state) for state in states], [fresh.ends(state) for state in states])


class Tables(unittest.TestCase):
    def test_form(self):
        for text, machine, folding, steps in cases():
            wanted = []
            for state in range(folding.size()):
                ways = [(column, folding.to(state, column)) for column in steps]
                wanted.append((folding.ends(state), [way for way in ways if way[1] is not None]))
            told = folding.table()
            self.assertEqual(told, wanted)
            self.assertIs(type(told), list)
            for ends, ways in told:
                self.assertIsInstance(ends, bool)
                self.assertIs(type(ways), list)
                self.assertTrue(all(type(way) is tuple and type(way[0]) is tuple for way in ways))

    def test_lists_are_the_askers_own(self):
        folding = Folding(Machine(read("voice 0 2\nheld 1 1")))
        wanted = folding.table()
        told = folding.table()
        for ends, ways in told:
            ways.clear()
        told.clear()
        self.assertEqual(folding.table(), wanted)
        self.assertEqual(folding.to(0, (1,)), dict(wanted[0][1])[(1,)])

    def table(self, *rows):
        return Folding(Machine(read("\n".join(rows)))).table()

    def test_same_lines_same_table(self):
        for one, other in (
            (("voice 0 2", "held 1 1", "begin 1 0"), ("voice 0 2", "begin 1 0", "held 1 1")),
            (("voice 0 2", "held 1 2"), ("voice 0 2", "held 1 2", "held 1 2")),
            (("voice 0 2", "back 1 1"), ("voice 0 2", "span 1 1 0", "back 1 1", "move 1 0 1 2 -1 -2")),
            (("voice 0 2",), ("voice 0 2", "clock 1 1 3 0", "move 1 0 1 2 -1 -2", "back 1 2", "times 1 9 0 0")),
            (("voice 1 2",), ("voice 0 2", "times 1 0 0 0")),
            (("voice 0 1", "voice 0 1", "span 1 2 0"), ("voice 0 1", "voice 0 3", "span 2 1 0")),
            (("voice 0 2", "move 1 1 -1 0"), ("voice 0 2", "move 1 0 1 -1 5", "move 1 -1 -1 0 1")),
            (("voice 0 1", "times 1 0 1 0"), ("voice 0 7", "times 1 1 2 1")),
            (("voice 0 1", "begin 1 7"), ("voice 3 5", "begin 1 7")),
            (("voice 0 2", "times 1 1 2 1"), ("voice 5 5", "times 1 1 1 9")),
        ):
            self.assertEqual(self.table(*one), self.table(*other), (one, other))

    def test_other_lines_other_table(self):
        for one, other in (
            (("voice 0 2",), ("voice 0 3",)),
            (("voice 0 2",), ("voice 1 3",)),
            (("voice 0 2", "held 1 2"), ("voice 0 2", "held 1 3")),
            (("voice 0 2", "close 1 0"), ("voice 0 2", "begin 1 0")),
            (("voice 0 2",), ("voice 0 2", "times 1 0 1 9")),
            (("voice 0 1", "every 30 29 span 1 1 0"), ("voice 0 1", "every 30 29 span 1 1 1")),
        ):
            self.assertNotEqual(self.table(*one), self.table(*other), (one, other))

    def test_same_table_just_where_the_same_lines_fit(self):
        tables = {text: Folding(Machine(read(text))).table() for text in plainly.SMALL}
        for one, other in itertools.product(plainly.SMALL, repeat=2):
            if len(plainly.ranges_of(one)) == len(plainly.ranges_of(other)):
                steps = sorted(set(plainly.columns_of(one) + plainly.columns_of(other)))
                same = all((plainly.fault_of(one, line) is None) == (plainly.fault_of(other, line) is None)
                           for line in lines_up_to(steps, 400))
                self.assertEqual(tables[one] == tables[other], same, (one, other))


class Tails(unittest.TestCase):
    def test_shortest_and_first(self):
        for text, machine, folding, steps in cases():
            for one, other in itertools.product(range(folding.size()), repeat=2):
                told = folding.tail(one, other)
                if one == other:
                    self.assertIsNone(told)
                    continue
                self.assertIs(type(told), list)
                self.assertNotEqual(ends_from(folding, one, told), ends_from(folding, other, told))
                if folding.size() > 12 and (one + other) % 5:
                    continue
                for line in lines_up_to(steps, 200):
                    if ends_from(folding, one, line) != ends_from(folding, other, line):
                        self.assertEqual(told, line, (text, one, other))
                        break
                    self.assertNotEqual(told, line)

    def test_by_hand(self):
        folding = Folding(Machine(read("voice 0 3\nmove 1 1\nclose 1 2\nheld 1 1")))
        self.assertEqual(folding.tail(0, 1), [])
        self.assertEqual(folding.tail(0, 3), [(2,)])
        self.assertEqual(folding.tail(1, 2), [(2,)])
        self.assertEqual(folding.tail(2, 1), [(2,)])
        folding = Folding(Machine(read("voice 0 0\nheld 1 40")))
        self.assertEqual(folding.tail(0, 1), [(0,)] * 40)
        self.assertEqual(folding.tail(39, 0), [(0,)] * 2)

    def test_line_is_the_askers_own(self):
        folding = Folding(Machine(read("voice 0 0\nheld 1 4")))
        folding.tail(0, 1).clear()
        self.assertEqual(folding.tail(0, 1), [(0,)] * 4)


if __name__ == "__main__":
    unittest.main()
