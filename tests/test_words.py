"""Point 5: which texts write a number."""

import itertools
import re
import unittest

from fourvoices.words import is_number

FORM = re.compile(r"0|-?[1-9][0-9]{0,39}")


class IsNumber(unittest.TestCase):
    def yes(self, *words):
        for word in words:
            with self.subTest(word=word):
                self.assertIs(is_number(word), True)

    def no(self, *words):
        for word in words:
            with self.subTest(word=word):
                self.assertIs(is_number(word), False)

    def test_ordinary_numbers(self):
        self.yes("1", "9", "10", "60", "127", "1000", "-1", "-5", "-60", "-1000")

    def test_each_whole_number_as_python_writes_it(self):
        self.yes(*[str(number) for number in range(-1100, 1101)])

    def test_nought(self):
        self.yes("0")
        self.no("-0", "--0")

    def test_texts_without_figures(self):
        self.no("", "-", "--", ".", ",", " ", "\n", "+", "a")

    def test_noughts_ahead(self):
        self.no("00", "01", "007", "000", "-00", "-01", "-007", "0" + "1" * 39, "-0" + "1" * 38)

    def test_noughts_amid_and_behind(self):
        self.yes("100", "1001", "-100", "-2002")

    def test_forty_figures_and_forty_one(self):
        for figure in "19":
            self.yes(figure * 39, figure * 40, "-" + figure * 39, "-" + figure * 40)
            self.no(figure * 41, "-" + figure * 41, figure * 42, figure * 600)
        self.yes("1" + "0" * 39, "-1" + "0" * 39)
        self.no("1" + "0" * 40, "-1" + "0" * 40, "0" * 40, "0" * 41)

    def test_wrong_sign_at_any_place(self):
        for number in ("0", "7", "60", "-5", "-123", "4" * 39, "-" + "4" * 39):
            for sign in (" ", "\n", ".", ",", "+", "a", "e", "x", "Z", "_", "/", ":", "~"):
                for place in range(len(number) + 1):
                    self.no(number[:place] + sign + number[place:])

    def test_second_minus_at_any_place(self):
        for number in ("-5", "-60", "-123"):
            for place in range(len(number) + 1):
                self.no(number[:place] + "-" + number[place:])

    def test_minus_behind_the_first_figure(self):
        self.no("5-", "6-0", "60-", "0-", "0-1")

    def test_other_signs_of_a_text(self):
        for code in range(ord(" "), ord("~") + 1):
            sign = chr(code)
            if sign not in "0123456789":
                self.no(sign, "1" + sign, "1" + sign + "1", "-" + sign)
            if sign not in "0123456789-":
                self.no(sign + "1")

    def test_each_short_text_of_some_signs(self):
        for long in range(6):
            for signs in itertools.product("-019 .\n", repeat=long):
                word = "".join(signs)
                if is_number(word) is not (FORM.fullmatch(word) is not None):
                    self.fail(repr(word))


if __name__ == "__main__":
    unittest.main()
