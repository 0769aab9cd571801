"""Points 2, 4, 7 and 33 to 35: prices, papers of prices and mended lines."""

import copy
import itertools
import unittest

import plainly
from fourvoices.errors import NoLine
from fourvoices.lines import holes, read_line
from fourvoices.machine import Machine
from fourvoices.mends import mended
from fourvoices.prices import price, prices_paper
from fourvoices.reader import read
from fourvoices.scores import fault

PRICES = ([1, 1, 1, 1], [0, 0, 0, 0], [3, 1, 2, 5], [0, 7, 0, 1], [10 ** 30, 1, 10 ** 40, 2])


def price_of(line, pattern, prices):
    """The words of point 33, None being 1 for each voice."""
    told = 0
    for column, given in zip(line, pattern):
        for voice, wanted in enumerate(given):
            if wanted is not None and wanted != column[voice]:
                told += 1 if prices is None else prices[voice]
    return told


def cases():
    for text in plainly.SMALL:
        machine = Machine(read(text))
        voices = len(machine.score.ranges)
        for long in range(min(plainly.longest_for(text), 4) + 1):
            lines = plainly.fitting_lines(text, long)
            for turn, pattern in enumerate(plainly.patterns_for(text, long)):
                for prices in (None, PRICES[turn % len(PRICES)][:voices]):
                    yield text, machine, pattern, prices, lines


def least_on(machine, state, pattern, prices, steps):
    """The least price of all ways on, gone through one by one; None where there is none."""
    if pattern == []:
        return 0 if machine.ends(state) else None
    told = []
    for column in steps:
        following = machine.to(state, column)
        if following is not None:
            later = least_on(machine, following, pattern[1:], prices, steps)
            if later is not None:
                told.append(price_of([column], pattern[:1], prices) + later)
    return min(told, default=None)


class Price(unittest.TestCase):
    def test_none_one_and_all_differ(self):
        for voices in range(1, 5):
            column = (60, 0, -7, 72)[:voices]
            for differ in itertools.product((False, True), repeat=voices):
                given = tuple(note + 1 if other else note for note, other in zip(column, differ))
                self.assertEqual(price(column, given), sum(differ))
                self.assertEqual(price(column, given, None), sum(differ))
                for prices in PRICES:
                    wanted = sum(cost for cost, other in zip(prices, differ) if other)
                    self.assertEqual(price(column, given, prices[:voices]), wanted)
                    self.assertTrue(plainly.is_whole(price(column, given, prices[:voices])))

    def test_holes_are_left_aside(self):
        self.assertEqual(price((1, 2, 3), (None, None, None)), 0)
        self.assertEqual(price((1, 2, 3), (None, 9, None)), 1)
        self.assertEqual(price((1, 2, 3), (None, 9, None), [5, 6, 7]), 6)
        self.assertEqual(price((1, 2, 3), (9, None, 9), [5, 6, 7]), 12)
        self.assertEqual(price((0,), (None,), [5]), 0)

    def test_nought_is_no_hole(self):
        self.assertEqual(price((1,), (0,)), 1)
        self.assertEqual(price((0,), (0,)), 0)

    def test_each_voice_has_its_own(self):
        for voice in range(4):
            given = tuple(1 if other == voice else 0 for other in range(4))
            self.assertEqual(price((0, 0, 0, 0), given, [2, 30, 400, 5000]), (2, 30, 400, 5000)[voice])

    def test_free_and_great(self):
        self.assertEqual(price((1, 1), (2, 2), [0, 0]), 0)
        self.assertEqual(price((1, 1), (2, 2), [10 ** 500, 1]), 10 ** 500 + 1)

    def test_notes_of_many_figures(self):
        self.assertEqual(price((10 ** 40,), (int("1" + "0" * 40),)), 0)
        self.assertEqual(price((10 ** 40,), (10 ** 40 + 1,)), 1)


class Papers(unittest.TestCase):
    def test_form(self):
        for text, machine, pattern, prices, lines in cases():
            paper = prices_paper(machine, pattern, prices)
            self.assertIs(type(paper), list)
            self.assertEqual(len(paper), len(pattern) + 1)
            for row in paper:
                self.assertIs(type(row), list)
                self.assertEqual(len(row), machine.size())
                self.assertTrue(all(number is None or plainly.is_whole(number) for number in row))
            self.assertEqual(paper[-1], [0 if machine.ends(state) else None for state in range(machine.size())])

    def test_each_number(self):
        for text, machine, pattern, prices, lines in cases():
            steps = plainly.columns_of(text)
            if len(pattern) > 3 or len(steps) ** len(pattern) > 200:
                continue
            wanted = [[least_on(machine, state, pattern[place:], prices, steps) for state in range(machine.size())]
                      for place in range(len(pattern) + 1)]
            self.assertEqual(prices_paper(machine, pattern, prices), wanted, (text, pattern, prices))

    def test_prices_left_out_are_ones(self):
        for text, machine, pattern, prices, lines in cases():
            ones = prices_paper(machine, pattern, [1] * len(machine.score.ranges))
            self.assertEqual(prices_paper(machine, pattern), ones)
            self.assertEqual(prices_paper(machine, pattern, None), ones)

    def test_state_from_which_no_way_goes_on(self):
        machine = Machine(read("voice 0 2\nmove 1 1\nclose 1 2"))
        paper = prices_paper(machine, holes(1, 2))
        one, two = machine.walk([(1,)]), machine.walk([(2,)])
        self.assertEqual((paper[1][one], paper[1][two]), (0, None))
        self.assertEqual((paper[2][one], paper[2][two]), (None, 0))
        self.assertEqual(paper[0][0], 0)
        self.assertIsNone(prices_paper(machine, holes(1, 4))[0][0])

    def test_pattern_without_columns(self):
        self.assertEqual(prices_paper(Machine(read("voice 0 0\ntimes 1 0 1 1")), []), [[None, 0]])

    def test_lists_are_the_askers_own(self):
        machine = Machine(read("voice 0 2\nheld 1 1"))
        told = prices_paper(machine, [(7,), (1,)])
        before = copy.deepcopy(told)
        again = prices_paper(machine, [(7,), (1,)])
        for row in told:
            row.clear()
        told.clear()
        self.assertEqual(again, before)
        self.assertEqual(prices_paper(machine, [(7,), (1,)]), before)


class Mended(unittest.TestCase):
    def test_held_against_all_lines(self):
        for text, machine, pattern, prices, lines in cases():
            wanted = min(((price_of(line, pattern, prices), line) for line in lines), default=None)
            try:
                told = mended(machine, pattern, prices)
            except NoLine as refusal:
                self.assertEqual(refusal.long, len(pattern))
                told = None
            if told != wanted:
                self.fail((text, pattern, prices, told, wanted))
            if told is not None:
                self.assertEqual((type(told), type(told[1])), (tuple, list))
                self.assertTrue(plainly.is_whole(told[0]))
                self.assertIsNone(fault(machine.score, told[1]))

    def test_a_line_that_fits_is_itself(self):
        for text in plainly.SMALL:
            machine = Machine(read(text))
            for long in range(min(plainly.longest_for(text), 3) + 1):
                for line in plainly.fitting_lines(text, long)[:40]:
                    self.assertEqual(mended(machine, line), (0, line))

    def test_first_in_order_of_several(self):
        machine = Machine(read("voice 0 4\nheld 1 1"))
        self.assertEqual(mended(machine, [(2,), (2,), (2,)]), (1, [(2,), (0,), (2,)]))
        self.assertEqual(mended(machine, [(2,), (2,)]), (1, [(0,), (2,)]))
        self.assertEqual(mended(machine, [(9,), (-9,)]), (2, [(0,), (1,)]))
        self.assertEqual(mended(machine, [(3,), (3,)], [0]), (0, [(0,), (1,)]))

    def test_holes_alone(self):
        self.assertEqual(mended(Machine(read("voice 5 7\nmove 1 -1")), holes(1, 3)), (0, [(7,), (6,), (5,)]))
        self.assertEqual(mended(Machine(read("voice 5 7\nvoice 1 2")), holes(2, 2)), (0, [(5, 1), (5, 1)]))

    def test_prices_choose_the_voice(self):
        machine = Machine(read("voice 0 4\nvoice 0 4\nspan 1 2 0"))
        self.assertEqual(mended(machine, [(1, 3)]), (1, [(1, 1)]))
        self.assertEqual(mended(machine, [(1, 3)], [1, 2]), (1, [(3, 3)]))
        self.assertEqual(mended(machine, [(1, 3)], [2, 1]), (1, [(1, 1)]))
        self.assertEqual(mended(machine, [(1, 3)], [0, 9]), (0, [(3, 3)]))
        self.assertEqual(mended(machine, [(1, 3)], [0, 0]), (0, [(0, 0)]))
        self.assertEqual(mended(machine, [(1, 3)], [10 ** 40, 10 ** 40 - 1]), (10 ** 40 - 1, [(1, 1)]))

    def test_pattern_without_columns(self):
        self.assertEqual(mended(Machine(read("voice 0 2")), []), (0, []))
        with self.assertRaises(NoLine) as caught:
            mended(Machine(read("voice 0 2\ntimes 1 0 1 1")), [])
        self.assertEqual(caught.exception.long, 0)

    def test_no_line(self):
        machine = Machine(read("voice 0 2\nmove 1 1"))
        self.assertEqual(mended(machine, holes(1, 3)), (0, [(0,), (1,), (2,)]))
        for long in (4, 5, 200):
            for pattern in (holes(1, long), [(1,)] * long):
                with self.assertRaises(NoLine) as caught:
                    mended(machine, pattern)
                self.assertEqual(caught.exception.long, long)

    def test_two_hundred_columns(self):
        machine = Machine(read("voice 0 2\nheld 1 1"))
        self.assertEqual(mended(machine, [(1,)] * 200), (100, [(0,), (1,)] * 100))
        self.assertEqual(mended(machine, [(1,)] * 199), (99, [(1,), (0,)] * 99 + [(1,)]))
        self.assertEqual(mended(machine, [(9,)] * 200, [10 ** 40]), (200 * 10 ** 40, [(0,), (1,)] * 100))

    def test_two_voices(self):
        machine = Machine(read("voice 60 64\nvoice 64 67\nspan 1 2 3 4 7\nmove 1 0 1 -1 2 -2"))
        self.assertEqual(mended(machine, read_line("60,64 62,67", 2)), (1, [(60, 64), (60, 67)]))

    def test_what_is_handed_in_stays(self):
        for text, machine, pattern, prices, lines in cases():
            kept = copy.deepcopy((pattern, prices))
            if lines:
                mended(machine, pattern, prices)[1].clear()
            prices_paper(machine, pattern, prices)
            self.assertEqual((pattern, prices), kept)

    def test_line_is_the_askers_own(self):
        machine = Machine(read("voice 0 2"))
        line = [(1,), (1,)]
        mended(machine, line)[1].clear()
        self.assertEqual((line, mended(machine, line)), ([(1,), (1,)], (0, [(1,), (1,)])))
        prices = [2]
        told = mended(machine, [(5,)], prices)
        prices[0] = 9
        self.assertEqual(told, (2, [(0,)]))


if __name__ == "__main__":
    unittest.main()
