"""Point 40: the desk, its rows, answers and refusals."""

import string
import unittest

import plainly
from fourvoices.desk import Desk
from fourvoices.errors import (Apart, BadLine, BadRow, Crowded, Endless, NoLine, NoName, NoNumber, NoRow, ScoreError, TooWide,
                               Unfit)

TWO = "voice 60 64; voice 64 67; span 1 2 3 4 7; move 1 0 1 -1 2 -2"


def desk_with(**scores):
    desk = Desk()
    for name, rows in scores.items():
        desk.say(f"score {name} {rows}")
    return desk


class Answers(unittest.TestCase):
    def told(self, desk, row, answer):
        with self.subTest(row=row):
            said = desk.say(row)
            self.assertIs(type(said), str)
            self.assertEqual(said, answer)

    def test_score_and_show(self):
        desk = Desk()
        for rows in ("voice 0 2", TWO, "voice -1 1; held 1 2; every 2 1 span 1 1 0"):
            self.told(desk, "score a " + rows, "ok")
            self.told(desk, "show a", rows)
        for text in plainly.SMALL:
            rows = text.replace("\n", "; ")
            self.told(desk, "score abcdefgh " + rows, "ok")
            self.told(desk, "show abcdefgh", rows)

    def test_join(self):
        desk = desk_with(a="voice 0 4; held 1 1", b="voice 2 9; begin 1 3")
        self.told(desk, "join c a b", "ok")
        self.told(desk, "show c", "voice 2 4; held 1 1; begin 1 3")
        self.told(desk, "join c b a", "ok")
        self.told(desk, "show c", "voice 2 4; begin 1 3; held 1 1")
        self.told(desk, "show a", "voice 0 4; held 1 1")
        self.told(desk, "join a a b", "ok")
        self.told(desk, "show a", "voice 2 4; held 1 1; begin 1 3")
        self.told(desk, "join b b b", "ok")
        self.told(desk, "show b", "voice 2 9; begin 1 3; begin 1 3")

    def test_drop(self):
        desk = desk_with(a="voice 0 4", b="voice 0 3")
        self.told(desk, "drop a", "ok")
        with self.assertRaises(NoName):
            desk.say("show a")
        self.told(desk, "show b", "voice 0 3")
        self.told(desk, "score a voice 7 7", "ok")
        self.told(desk, "count a .", "1")

    def test_fault(self):
        desk = desk_with(a=TWO)
        self.told(desk, "fault a 60,64 61,65", "fits")
        self.told(desk, "fault a 60,64 62,67", "1 2")
        self.told(desk, "fault a 60,64 63,67", "1 3")
        self.told(desk, "fault a 59,64 60,68", "0 0")
        self.told(desk, "fault a 60,64 60,68", "1 1")
        self.told(desk, "fault a ", "fits")
        desk = desk_with(a="voice 0 2; times 1 0 1 1")
        self.told(desk, "fault a ", "0 1")
        self.told(desk, "fault a 1 1", "2 1")
        self.told(desk, "fault a 0 1", "fits")

    def test_count(self):
        desk = desk_with(a="voice 0 2; held 1 1")
        for line, count in (("", "1"), (".", "3"), (". .", "6"), (". 1", "2"), ("1 1", "0"), ("9", "0"), (". . . .", "24")):
            self.told(desk, "count a " + line, count)
        self.told(desk, "count a " + " ".join(["."] * 200), str(3 * 2 ** 199))

    def test_line(self):
        desk = desk_with(a="voice 0 2; held 1 1", b=TWO)
        self.told(desk, "line a 0 . .", "0 1")
        self.told(desk, "line a 5 . .", "2 1")
        self.told(desk, "line a 1 . 1", "2 1")
        self.told(desk, "line a 0 ", "")
        self.told(desk, "line b 0 .,. .,.", "60,64 60,64")
        self.told(desk, "line b 0 .,. .,67", "60,64 60,67")

    def test_number(self):
        desk = desk_with(a="voice 0 2; held 1 1", b=TWO)
        for number, line in enumerate(("0 1", "0 2", "1 0", "1 2", "2 0", "2 1")):
            self.told(desk, "number a " + line, str(number))
            self.told(desk, f"line a {number} . .", line)
        self.told(desk, "number a ", "0")
        self.told(desk, "number b 60,64 60,64", "0")

    def test_mend(self):
        desk = desk_with(a=TWO, b="voice 0 2; held 1 1")
        self.told(desk, "mend a 60,64 62,65", "0 60,64 62,65")
        self.told(desk, "mend a 60,64 62,67", "1 60,64 60,67")
        self.told(desk, "mend a 10,64 62,1", "2 60,64 62,65")
        self.told(desk, "mend a .,. .,.", "0 60,64 60,64")
        self.told(desk, "mend a ", "0 ")
        self.told(desk, "mend b 1 1 1", "1 1 0 1")
        self.told(desk, "mend b . 0 0", "1 0 1 0")

    def test_part(self):
        desk = desk_with(a="voice 0 2", b="voice 0 3", c="voice 0 4; times 1 4 0 0", d="voice 0 2; times 1 0 1 1", e=TWO,
                         f=TWO + "; held 1 2")
        self.told(desk, "part a b", "apart 3")
        self.told(desk, "part b c", "same")
        self.told(desk, "part c b", "same")
        self.told(desk, "part a a", "same")
        self.told(desk, "part a d", "apart ")
        self.told(desk, "part e f", "apart 60,64 60,64 60,64")

    def test_long(self):
        desk = desk_with(a="voice 0 2", b="voice 0 2; move 1 1", c="voice 0 2; begin 1 7", d="voice 0 2; times 1 0 2 1")
        for name, answer in (("a", "endless"), ("b", "3"), ("c", "0"), ("d", "-1")):
            self.told(desk, "long " + name, answer)

    def test_name_told_anew(self):
        desk = desk_with(a="voice 0 2")
        self.told(desk, "count a .", "3")
        self.told(desk, "long a", "endless")
        self.told(desk, "score a voice 0 4; held 1 1; move 1 1", "ok")
        self.told(desk, "count a .", "5")
        self.told(desk, "count a . .", "4")
        self.told(desk, "long a", "5")
        self.told(desk, "score b voice 3 4", "ok")
        self.told(desk, "join a a b", "ok")
        self.told(desk, "count a .", "2")
        self.told(desk, "score a voice 0 0; voice 0 0", "ok")
        self.told(desk, "count a 0,0", "1")

    def test_scores_called_like_rows(self):
        desk = desk_with(score="voice 0 1", line="voice 0 2", fits="voice 0 3")
        self.told(desk, "show score", "voice 0 1")
        self.told(desk, "line line 2 .", "2")
        self.told(desk, "join join fits line", "ok")
        self.told(desk, "count join .", "3")

    def test_two_desks(self):
        one, other = desk_with(a="voice 0 1"), desk_with(a="voice 0 4")
        self.told(one, "count a .", "2")
        self.told(other, "count a .", "5")
        one.say("drop a")
        self.told(other, "show a", "voice 0 4")
        with self.assertRaises(NoName):
            one.say("show a")
        one.say("score b voice 0 1")
        with self.assertRaises(NoName):
            other.say("show b")


class Refusals(unittest.TestCase):
    def setUp(self):
        self.desk = desk_with(a="voice 0 2; held 1 1", b=TWO, c="voice 0 2; move 1 1", d="voice 7 9")
        self.before = self.state()

    def state(self):
        told = []
        for name in "abcd":
            told.append(self.desk.say("show " + name))
        return told

    def refused(self, said, kind, **fields):
        with self.subTest(said=said):
            with self.assertRaises(ScoreError) as caught:
                self.desk.say(said)
            self.assertIs(type(caught.exception), kind)
            for field, value in fields.items():
                self.assertEqual(getattr(caught.exception, field), value)
            self.assertEqual(self.state(), self.before)

    def test_unknown_rows(self):
        for row in ("", " ", "  ", "a", "scor a voice 0 1", "Score a voice 0 1", "SCORE a voice 0 1", " score a voice 0 1",
                    "scores a voice 0 1", "show; a", "help", "show,a", "counta .", "1", "lines a 0 ."):
            self.refused(row, NoRow)

    def test_a_word_too_few(self):
        for row in ("score", "score ", "score a", "join", "join ", "join a", "join a ", "join a b", "drop", "show", "fault",
                    "fault ", "fault a", "count", "count a", "line", "line ", "line a", "line a ", "line a 0", "number", "number a",
                    "mend", "mend a", "part", "part ", "part a", "long"):
            self.refused(row, NoRow)

    def test_a_word_too_many(self):
        for row in ("join a b c d", "join a a a ", "drop a b", "drop a ", "show a b", "show a ", "part a b c", "part a a ",
                    "long a b", "long a ", "drop  a", "show  a", "part a  b", "long  a", "join  a b c", "join a  b c"):
            self.refused(row, NoRow)

    def test_number_that_is_none(self):
        for number in ("x", "01", "-0", "+1", "1.0", "", "-", ".", "1" * 41, "1,2", "0x1"):
            self.refused(f"line a {number} .", NoRow)
            self.refused(f"line a {number} ", NoRow)
            # The number comes ahead of the name.
            self.refused(f"line A {number} .", NoRow)
            self.refused(f"line z {number} .", NoRow)

    def test_names_that_are_none(self):
        bad = ("", "abcdefghi", "A", "aB", "a1", "1", "a_", "a-b", "a.", "a;", "a,b", "~")
        for name in bad:
            for row in ("score {} voice 0 1", "score {} ", "score {} x", "join {} a a", "join {} z z", "drop {}", "show {}", "fault {} 0",
                        "fault {} x", "count {} .", "line {} 0 .", "number {} 0", "mend {} 0", "mend {} ", "part {} a", "part {} z",
                        "long {}"):
                self.refused(row.format(name), NoName, name=name)
            self.refused(f"join z {name} a", NoName, name=name)
            self.refused(f"join z a {name}", NoName, name=name)
            self.refused(f"part a {name}", NoName, name=name)

    def test_names_by_which_no_score_stands(self):
        for row in ("join a z b", "join a b z", "join z z a", "drop z", "show z", "fault z 0", "fault z x", "count z .",
                    "line z 0 .", "number z 0", "mend z 0", "part z a", "part a z", "long z"):
            self.refused(row, NoName, name="z")

    def test_first_name_from_the_left(self):
        self.refused("join A1 x y", NoName, name="A1")
        self.refused("join new x y", NoName, name="x")
        self.refused("join new x Y", NoName, name="x")
        self.refused("join new a Y", NoName, name="Y")
        self.refused("join new Q y", NoName, name="Q")
        self.refused("join   ", NoName, name="")
        self.refused("part x y", NoName, name="x")
        self.refused("part a y", NoName, name="y")
        self.refused("part  ", NoName, name="")
        self.refused("drop ", NoName, name="")
        self.refused("show ", NoName, name="")
        self.refused("long ", NoName, name="")
        self.refused("count  .", NoName, name="")
        self.refused("count  ", NoName, name="")
        self.refused("score  voice 0 1", NoName, name="")
        self.refused("line  0 .", NoName, name="")

    def test_each_letter_is_a_letter_of_a_name(self):
        for place in range(0, 26, 2):
            name = string.ascii_lowercase[place:place + 8]
            self.assertEqual(self.desk.say(f"score {name} voice 0 1"), "ok")
        self.assertEqual(self.desk.say("score zzzzzzzz voice 0 1"), "ok")

    def test_names_come_ahead_of_the_stages(self):
        self.refused("score A x", NoName, name="A")
        self.refused("count z x", NoName, name="z")
        self.refused("join A a b", NoName, name="A")
        self.refused("part b z", NoName, name="z")

    def test_rows_of_a_score(self):
        for rows, row in (("", 0), ("x", 0), ("voice 0 1;", 0), ("voice 0 1; ", 1), ("; voice 0 1", 0), ("voice 0 1;voice 0 1", 0),
                          ("voice 0 1 ; voice 0 1", 0), ("voice 0 1;  voice 0 1", 1), ("voice 0 1; ; voice 0 1", 1),
                          ("voice 0 1; held 1 0", 1), (" voice 0 1", 0), ("voice 0 1;; voice 0 1", 0), ("voice 1 0", 0),
                          ("voice 0 1; held 1 1; voice 0 1", 2), ("; ", 0)):
            self.refused("score a " + rows, BadRow, row=row)
            self.refused("score new " + rows, BadRow, row=row)
            with self.assertRaises(NoName):
                self.desk.say("show new")

    def test_wide_and_crowded_and_apart(self):
        self.refused("score a voice 0 400", TooWide, weight=401)
        self.refused("join a a b", Apart, voice=0)
        self.refused("join a a d", Apart, voice=1)
        self.refused("part a b", Apart, voice=0)
        self.desk.say("score e voice 0 0; " + "; ".join(["begin 1 0"] * 7))
        self.refused("join a e e", Crowded, many=14)
        self.desk.say("score e voice 0 0; held 1 30")
        self.refused("join a e e", TooWide, weight=900)

    def test_bad_lines(self):
        for row in ("fault b {}", "count b {}", "line b 0 {}", "number b {}", "mend b {}"):
            for line, place in ((" ", 0), ("60", 0), ("60,64 ", 1), ("60,64  60,64", 1), ("60,64 60,64,67", 1), ("x", 0),
                                (" 60,64", 0), ("60,64 60,064", 1), ("60,64 60,64 .", 2)):
                self.refused(row.format(line), BadLine, place=place)
        for row in ("fault b {}", "number b {}"):
            for line, place in ((".,64", 0), ("60,64 60,.", 1), ("60,64 .,. .,.", 1), (".,. x", 1), (".,64 60", 1),
                                ("99,99 .,64", 1), ("60,64 60,67 60,. ", 3)):
                self.refused(row.format(line), BadLine, place=place)

    def test_bad_lines_come_first(self):
        self.refused("line a 99 x", BadLine, place=0)
        self.refused("line a -1 0 ", BadLine, place=1)
        self.refused("mend c . . . . x", BadLine, place=4)
        self.refused("number a 0 0 .", BadLine, place=2)

    def test_the_stages_refusals(self):
        self.refused("line a 3 .", NoNumber, number=3)
        self.refused("line a -1 .", NoNumber, number=-1)
        self.refused("line a " + "9" * 40 + " .", NoNumber, number=int("9" * 40))
        self.refused("line a 1 ", NoNumber, number=1)
        self.refused("line a 0 0 0", NoNumber, number=0)
        self.refused("number a 0 0", Unfit, place=1, row=1)
        self.refused("number a 9", Unfit, place=0, row=0)
        self.refused("mend c . . . .", NoLine, long=4)
        self.desk.say("score e voice 0 1; times 1 0 1 1")
        self.refused("number e ", Unfit, place=0, row=1)
        self.refused("mend e ", NoLine, long=0)
        self.refused("line e 0 ", NoNumber, number=0)

    def test_endless_is_an_answer(self):
        try:
            self.assertEqual(self.desk.say("long a"), "endless")
        except Endless:
            self.fail("long is answered")

    def test_what_is_refused_changes_nothing(self):
        counts = [self.desk.say("count a . ."), self.desk.say("long c")]
        for row in ("score a voice 0 400", "score a x", "join a a b", "join a a d", "join c z c", "drop z", "drop A", "drop a b"):
            with self.assertRaises(ScoreError):
                self.desk.say(row)
        self.assertEqual([self.desk.say("count a . ."), self.desk.say("long c")], counts)
        self.assertEqual(self.state(), self.before)


if __name__ == "__main__":
    unittest.main()
