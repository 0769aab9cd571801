"""Points 4 and 26: two scores joined to one."""

import unittest

import plainly
from fourvoices.errors import Apart, Crowded, TooWide
from fourvoices.joins import joined
from fourvoices.reader import read, shown
from fourvoices.scores import Score, fault, weight


def join_texts(one, other):
    return joined(read(one), read(other))


class Joined(unittest.TestCase):
    def test_ranges_and_rules(self):
        told = join_texts("voice 0 4\nvoice -3 9\nspan 1 2 0\nheld 1 2", "voice 2 7\nvoice 0 3\nmove 1 1\nheld 1 2")
        self.assertIsInstance(told, Score)
        self.assertEqual(shown(told), "voice 2 4\nvoice 0 3\nspan 1 2 0\nheld 1 2\nmove 1 1\nheld 1 2")
        self.assertEqual(told.ranges, [(2, 4), (0, 3)])

    def test_one_within_the_other(self):
        self.assertEqual(shown(join_texts("voice 0 9", "voice 3 5")), "voice 3 5")
        self.assertEqual(shown(join_texts("voice 3 5", "voice 0 9")), "voice 3 5")
        self.assertEqual(shown(join_texts("voice -9 9", "voice -9 9")), "voice -9 9")

    def test_ranges_that_touch(self):
        self.assertEqual(shown(join_texts("voice 0 5", "voice 5 9")), "voice 5 5")
        self.assertEqual(shown(join_texts("voice 5 9", "voice 0 5")), "voice 5 5")

    def test_with_itself(self):
        for text in plainly.SMALL:
            score = read(text)
            if len(score.rules) <= 6:
                rows = text.split("\n")
                many = len(score.ranges)
                self.assertEqual(shown(joined(score, score)), "\n".join(rows + rows[many:]))

    def test_fits_just_where_it_fits_both(self):
        for one in plainly.SMALL:
            for other in plainly.SMALL:
                try:
                    told = join_texts(one, other)
                except (Apart, Crowded):
                    continue
                columns = sorted(set(plainly.columns_of(one) + plainly.columns_of(other)))
                for long in range(max(long for long in range(5) if len(columns) ** long <= 100) + 1):
                    for line in plainly.all_lines(columns, long):
                        both = plainly.fault_of(one, line) is None and plainly.fault_of(other, line) is None
                        if (fault(told, line) is None) != both:
                            self.fail((one, other, line))

    def test_what_is_joined_stays(self):
        one, other = read("voice 0 4\nheld 1 1"), read("voice 2 7\nbegin 1 3")
        told = joined(one, other)
        self.assertEqual((shown(one), shown(other)), ("voice 0 4\nheld 1 1", "voice 2 7\nbegin 1 3"))
        self.assertIsNot(told.rules, one.rules)
        self.assertIsNot(told.rules, other.rules)
        again = joined(told, read("voice 0 9"))
        self.assertEqual((shown(told), shown(again)), ("voice 2 4\nheld 1 1\nbegin 1 3",) * 2)


class Refused(unittest.TestCase):
    def apart(self, one, other, voice):
        for first, second in ((one, other), (other, one)):
            with self.subTest(first=first, second=second):
                with self.assertRaises(Apart) as caught:
                    join_texts(first, second)
                self.assertEqual(caught.exception.voice, voice)

    def test_unlike_numbers_of_voices(self):
        for one in range(1, 5):
            for other in range(1, 5):
                if one != other:
                    self.apart("\n".join(["voice 0 0"] * one), "\n".join(["voice 0 0"] * other), 0)
        self.apart("voice 0 0", "voice 1 1\nvoice 0 0", 0)

    def test_nothing_in_common(self):
        self.apart("voice 0 4", "voice 5 9", 1)
        self.apart("voice 0 1\nvoice 0 1", "voice 1 2\nvoice 2 3", 2)
        self.apart("voice 0 1\nvoice 0 1", "voice 2 2\nvoice 2 3", 1)
        self.apart("\n".join(["voice 0 0"] * 4), "\n".join(["voice 0 0"] * 3 + ["voice -1 -1"]), 4)
        self.apart("\n".join(["voice 0 0"] * 4), "voice 0 0\nvoice 0 0\nvoice 1 1\nvoice -1 -1", 3)

    def rules(self, many, low=0, high=0):
        return "\n".join([f"voice {low} {high}"] + ["begin 1 0"] * many)

    def test_twelve_rules_and_thirteen(self):
        for one in range(13):
            self.assertEqual(len(join_texts(self.rules(one), self.rules(12 - one)).rules), 12)
            for more in (1, 12):
                if 12 - one + more <= 12:
                    with self.assertRaises(Crowded) as caught:
                        join_texts(self.rules(one), self.rules(12 - one + more))
                    self.assertEqual(caught.exception.many, 12 + more)
        with self.assertRaises(Crowded) as caught:
            join_texts(self.rules(12), self.rules(12))
        self.assertEqual(caught.exception.many, 24)

    def test_too_wide(self):
        told = join_texts("voice 0 19\nheld 1 20", "voice 0 0\nheld 1 20")
        self.assertEqual(weight(told), 400)
        with self.assertRaises(TooWide) as caught:
            join_texts("voice 0 1\nheld 1 20", "voice 0 1\nheld 1 20")
        self.assertEqual(caught.exception.weight, 800)
        with self.assertRaises(TooWide) as caught:
            join_texts("voice 0 0\nheld 1 400", "voice 0 0\ntimes 1 0 0 399")
        self.assertEqual(caught.exception.weight, 160000)

    def test_crowded_ahead_of_too_wide(self):
        with self.assertRaises(Crowded) as caught:
            join_texts("voice 0 0\nheld 1 400", self.rules(11) + "\nheld 1 400")
        self.assertEqual(caught.exception.many, 13)

    def test_apart_ahead_of_crowded(self):
        self.apart(self.rules(12), self.rules(12, 1, 1), 1)
        self.apart(self.rules(12), self.rules(12).replace("voice 0 0", "voice 0 0\nvoice 0 0"), 0)

    def test_apart_ahead_of_too_wide(self):
        self.apart("voice 0 0\nheld 1 400", "voice 1 1\nheld 1 400", 1)


if __name__ == "__main__":
    unittest.main()
