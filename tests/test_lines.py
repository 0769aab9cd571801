"""Points 1, 2 and 6 to 9: lines and patterns."""

import copy
import itertools
import unittest

from fourvoices.errors import BadLine
from fourvoices.lines import agrees, holes, read_line, shown_line

FORTY = 10 ** 40 - 1

# Each pattern beside its text and its number of voices.
WRITTEN = (
    ([], "", 1),
    ([], "", 2),
    ([], "", 3),
    ([], "", 4),
    ([(60,)], "60", 1),
    ([(0,)], "0", 1),
    ([(None,)], ".", 1),
    ([(-5,)], "-5", 1),
    ([(60, 64), (62, -5)], "60,64 62,-5", 2),
    ([(0, 0), (0, 0)], "0,0 0,0", 2),
    ([(None, 64), (62, None), (None, None)], ".,64 62,. .,.", 2),
    ([(FORTY,), (-FORTY,), (10 ** 39,)], f"{FORTY} -{FORTY} 1{'0' * 39}", 1),
    ([(1, -2, 3), (None, 0, None)], "1,-2,3 .,0,.", 3),
    ([(1, 2, 3, 4)], "1,2,3,4", 4),
    ([(48, 55, 60, 64), (None, -1, 0, FORTY)], f"48,55,60,64 .,-1,0,{FORTY}", 4),
)


def patterns_of(voices):
    notes = (None, 0, -1, 61, FORTY, -FORTY)
    columns = list(itertools.product(notes, repeat=voices))
    yield []
    for column in columns:
        yield [column]
    for place in range(0, len(columns), 7):
        yield columns[place:place + 5]
    yield (columns * 200)[:200]


def is_whole(value):
    return isinstance(value, int) and not isinstance(value, bool)


class Agrees(unittest.TestCase):
    def test_same_notes(self):
        for column in ((60,), (60, 64), (60, 64, 67), (60, 64, 67, 72), (0,), (-1, 0, 1, -1)):
            with self.subTest(column=column):
                self.assertIs(agrees(column, tuple(list(column))), True)

    def test_holes_at_any_voices(self):
        for voices in range(1, 5):
            column = (60, 0, -7, 72)[:voices]
            for kept in itertools.product((True, False), repeat=voices):
                given = tuple(note if keep else None for note, keep in zip(column, kept))
                with self.subTest(given=given):
                    self.assertIs(agrees(column, given), True)

    def test_one_note_that_differs_at_each_voice(self):
        for voices in range(1, 5):
            column = (60, 0, -7, 72)[:voices]
            for voice in range(voices):
                for other in (column[voice] + 1, column[voice] - 1, -column[voice] - 2):
                    beside = column[:voice] + (other,) + column[voice + 1:]
                    alone = (None,) * voice + (other,) + (None,) * (voices - voice - 1)
                    with self.subTest(column=column, other=other, voice=voice):
                        self.assertIs(agrees(column, beside), False)
                        self.assertIs(agrees(column, alone), False)

    def test_nought_given_is_no_hole(self):
        self.assertIs(agrees((5,), (0,)), False)
        self.assertIs(agrees((0,), (0,)), True)
        self.assertIs(agrees((0,), (None,)), True)

    def test_notes_of_many_figures(self):
        for voices in range(1, 5):
            for voice in range(voices):
                note = int("7" * 40)
                column = (1,) * voice + (note,) + (1,) * (voices - voice - 1)
                same = column[:voice] + (int("7" * 40),) + column[voice + 1:]
                unlike = column[:voice] + (note + 1,) + column[voice + 1:]
                opposite = column[:voice] + (-note,) + column[voice + 1:]
                self.assertIs(agrees(column, same), True)
                self.assertIs(agrees(column, unlike), False)
                self.assertIs(agrees(column, opposite), False)
        self.assertIs(agrees((10 ** 599,), (10 ** 599,)), True)
        self.assertIs(agrees((10 ** 599,), (10 ** 599 + 1,)), False)


class Holes(unittest.TestCase):
    def test_as_many_columns_of_as_many_holes(self):
        for voices in range(1, 5):
            for many in range(201):
                told = holes(voices, many)
                self.assertIs(type(told), list)
                self.assertEqual(len(told), many)
                for column in told:
                    self.assertIs(type(column), tuple)
                    self.assertEqual(column, (None,) * voices)

    def test_lines_agree_with_it(self):
        for column in itertools.product((-1, 0, 60), repeat=2):
            self.assertIs(agrees(column, holes(2, 1)[0]), True)

    def test_each_list_is_the_askers_own(self):
        for many in (0, 1, 3):
            first = holes(2, many)
            first.append((1, 2))
            first[0] = (3, 4)
            self.assertEqual(holes(2, many), [(None, None)] * many)


class ShownLine(unittest.TestCase):
    def test_written(self):
        for pattern, text, voices in WRITTEN:
            with self.subTest(text=text):
                self.assertEqual(shown_line(pattern), text)

    def test_holes_alone(self):
        self.assertEqual(shown_line(holes(1, 3)), ". . .")
        self.assertEqual(shown_line(holes(4, 2)), ".,.,.,. .,.,.,.")

    def test_two_hundred_columns(self):
        self.assertEqual(shown_line([(60, -1)] * 200), "60,-1 " * 199 + "60,-1")

    def test_numbers_of_more_than_forty_figures_are_not_refused(self):
        self.assertEqual(shown_line([(10 ** 599,), (-10 ** 40,)]), f"1{'0' * 599} -1{'0' * 40}")

    def test_pattern_stays_as_it_is(self):
        for pattern, text, voices in WRITTEN:
            before = copy.deepcopy(pattern)
            shown_line(pattern)
            self.assertEqual(pattern, before)


class ReadLine(unittest.TestCase):
    def assert_pattern(self, told, wanted):
        self.assertIs(type(told), list)
        self.assertEqual(told, wanted)
        for column in told:
            self.assertIs(type(column), tuple)
            for note in column:
                self.assertTrue(note is None or is_whole(note))

    def test_written(self):
        for pattern, text, voices in WRITTEN:
            with self.subTest(text=text):
                self.assert_pattern(read_line(text, voices), pattern)

    def test_text_without_signs_for_each_number_of_voices(self):
        for voices in range(1, 5):
            self.assert_pattern(read_line("", voices), [])

    def test_reads_what_is_shown(self):
        for voices in range(1, 5):
            for pattern in patterns_of(voices):
                self.assert_pattern(read_line(shown_line(pattern), voices), pattern)

    def test_each_list_is_the_askers_own(self):
        for text, wanted in (("", []), ("60,. 62,65", [(60, None), (62, 65)])):
            first = read_line(text, 2)
            second = read_line(text, 2)
            first.append((1, 2))
            first[0] = (3, 4)
            self.assertEqual(second, wanted)
            self.assertEqual(read_line(text, 2), wanted)

    def test_lines_read_stand_in_order(self):
        # Point 7: by the first place that differs, then the first voice; by number, not by text.
        texts = ["-10,5 0,0", "-9,5 0,0", "0,-1 9,9", "0,0 -3,7", "0,0 9,8", "0,0 9,10", "0,0 10,-4", "9,0 0,0",
                 "10,0 0,0"]
        lines = [read_line(text, 2) for text in texts]
        self.assertEqual([shown_line(line) for line in sorted(reversed(lines))], texts)


class RefusedLines(unittest.TestCase):
    def refused(self, text, voices, place):
        with self.subTest(text=text, voices=voices):
            with self.assertRaises(BadLine) as caught:
                read_line(text, voices)
            self.assertTrue(is_whole(caught.exception.place))
            self.assertEqual(caught.exception.place, place)

    def refused_at_each_place(self, piece, voices):
        good = ",".join(["60", ".", "-5", "0"][:voices])
        for many in (1, 2, 3, 5):
            for place in range(many):
                pieces = [good] * many
                pieces[place] = piece
                self.refused(" ".join(pieces), voices, place)

    def test_too_few_notes_and_too_many(self):
        for voices in range(1, 5):
            for many in range(1, 7):
                if many != voices:
                    self.refused_at_each_place(",".join(["60"] * many), voices)
                    self.refused_at_each_place(",".join(["."] * many), voices)

    def test_notes_that_are_no_numbers(self):
        wrong = ["4" * 41, "-" + "4" * 41, "01", "00", "-01", "-0", "-", "--1", "a", "6a", "+6", "6.0", "..", ".6", "-.",
                 "60\n", "\n60", "\n", ".\n", "6\n0", "None", "_", "1_0", "60;", "/"]
        for voices in range(1, 5):
            for note in wrong:
                for voice in range(voices):
                    notes = ["60"] * voices
                    notes[voice] = note
                    self.refused_at_each_place(",".join(notes), voices)

    def test_notes_without_signs(self):
        for voices in range(2, 5):
            for voice in range(voices):
                notes = ["60"] * voices
                notes[voice] = ""
                self.refused_at_each_place(",".join(notes), voices)
            self.refused_at_each_place("," * (voices - 1), voices)

    def test_comma_at_an_end_of_a_column(self):
        self.refused_at_each_place("60,", 1)
        self.refused_at_each_place(",60", 1)
        self.refused_at_each_place(",", 1)
        self.refused_at_each_place("60,64,", 2)

    def test_blank_at_either_end(self):
        self.refused(" 60", 1, 0)
        self.refused("60 ", 1, 1)
        self.refused(" 60,64 62,65", 2, 0)
        self.refused("60,64 62,65 ", 2, 2)
        self.refused(" 60 ", 1, 0)

    def test_blanks_side_by_side(self):
        self.refused("60  62", 1, 1)
        self.refused("60 62  64", 1, 2)
        self.refused("60,64   62,65", 2, 1)

    def test_blanks_alone(self):
        for voices in range(1, 5):
            self.refused(" ", voices, 0)
            self.refused("  ", voices, 0)

    def test_blank_beside_a_comma(self):
        self.refused("60, 64", 2, 0)
        self.refused("60,64 62 ,65", 2, 1)

    def test_line_end_in_the_place_of_a_blank(self):
        self.refused("60\n62", 1, 0)
        self.refused("60 62\n64", 1, 1)
        self.refused("60,64\n62,65", 2, 0)

    def test_line_end_alone(self):
        for voices in range(1, 5):
            self.refused("\n", voices, 0)

    def test_first_of_two_columns_at_fault(self):
        self.refused("60 x 62 y", 1, 1)
        self.refused("x y", 1, 0)
        self.refused("60,64 62 64,65,66", 2, 1)
        self.refused("60,64 62,65 1,2,3 -0,1", 2, 2)
        self.refused("60 01 ", 1, 1)
        self.refused("60  01", 1, 1)

    def test_last_of_two_hundred_columns(self):
        self.refused("60 " * 199 + "x", 1, 199)
        self.refused("60 " * 200, 1, 200)


if __name__ == "__main__":
    unittest.main()
