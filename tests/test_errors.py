"""Points 2 and 3: the refusals and their fields."""

import unittest

from fourvoices import errors

FIELDS = {
    "BadRow": ("row",),
    "BadLine": ("place",),
    "TooWide": ("weight",),
    "Apart": ("voice",),
    "Crowded": ("many",),
    "NoNumber": ("number",),
    "Unlike": ("place",),
    "Unfit": ("place", "row"),
    "NoLine": ("long",),
    "NoName": ("name",),
    "Endless": (),
    "NoRow": (),
}


def value_of(field, turn):
    return "bass" if field == "name" else 70 + turn


def made(name):
    values = [value_of(field, turn) for turn, field in enumerate(FIELDS[name])]
    return getattr(errors, name)(*values)


def taken_as(error, kind):
    try:
        raise error
    except kind:
        return True
    except Exception:
        return False


class Refusals(unittest.TestCase):
    def test_fields_stand_under_their_names_in_their_order(self):
        for name, fields in FIELDS.items():
            error = made(name)
            for turn, field in enumerate(fields):
                with self.subTest(name=name, field=field):
                    self.assertEqual(getattr(error, field), value_of(field, turn))

    def test_fields_below_and_beyond_the_ordinary(self):
        self.assertEqual(errors.NoNumber(-1).number, -1)
        self.assertEqual(errors.NoNumber(10 ** 599).number, 10 ** 599)
        self.assertEqual(errors.NoName("").name, "")
        self.assertEqual(errors.Apart(0).voice, 0)

    def test_two_refusals_of_one_class_keep_their_own_fields(self):
        one, other = errors.Unfit(1, 2), errors.Unfit(3, 4)
        self.assertEqual((one.place, one.row, other.place, other.row), (1, 2, 3, 4))

    def test_each_is_taken_as_score_error_and_as_value_error(self):
        for name in FIELDS:
            with self.subTest(name=name):
                self.assertTrue(taken_as(made(name), errors.ScoreError))
                self.assertTrue(taken_as(made(name), ValueError))

    def test_each_is_taken_as_itself_and_as_none_of_the_others(self):
        for name in FIELDS:
            for other in FIELDS:
                with self.subTest(name=name, other=other):
                    self.assertEqual(taken_as(made(name), getattr(errors, other)), name == other)

    def test_score_error_stands_straight_under_value_error(self):
        self.assertEqual(errors.ScoreError.__bases__, (ValueError,))

    def test_score_error_is_none_of_the_others(self):
        for name in FIELDS:
            with self.subTest(name=name):
                self.assertFalse(taken_as(errors.ScoreError(), getattr(errors, name)))


if __name__ == "__main__":
    unittest.main()
