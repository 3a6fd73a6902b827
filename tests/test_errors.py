"""The interface of rollcode.errors, and what [2] says of refusals."""

import unittest

from rollcode import errors
from rollcode.errors import (
    BadLog, BadPress, BadRow, CodeError, Full, Known, TooMany, Unknown, Worn)

WORDED = (Worn, Known, Full, Unknown, TooMany)
PLACED = (BadPress,)
ROWED = (BadLog, BadRow)
REFUSALS = WORDED + PLACED + ROWED


class Bases(unittest.TestCase):
    def test_code_error_stands_straight_under_value_error(self):
        self.assertEqual(CodeError.__bases__, (ValueError,))

    def test_each_refusal_stands_straight_under_code_error(self):
        for refusal in REFUSALS:
            with self.subTest(refusal=refusal.__name__):
                self.assertEqual(refusal.__bases__, (CodeError,))

    def test_none_stands_under_another_one(self):
        for one in REFUSALS:
            for other in REFUSALS:
                if one is not other:
                    with self.subTest(one=one.__name__, other=other.__name__):
                        self.assertFalse(issubclass(one, other))

    def test_names_are_as_told(self):
        names = ("CodeError", "Worn", "Known", "Full", "Unknown", "TooMany",
                 "BadPress", "BadLog", "BadRow")
        for name in names:
            with self.subTest(name=name):
                self.assertEqual(getattr(errors, name).__name__, name)


class Making(unittest.TestCase):
    def test_those_with_words_are_made_and_raised(self):
        for refusal in WORDED + (CodeError,):
            with self.subTest(refusal=refusal.__name__):
                with self.assertRaises(refusal) as caught:
                    raise refusal("some words")
                self.assertIsInstance(caught.exception, CodeError)
                self.assertIn("some words", str(caught.exception))

    def test_bad_press_has_its_place(self):
        for place in (0, 1, 9999):
            with self.assertRaises(BadPress) as caught:
                raise BadPress(place)
            self.assertEqual(caught.exception.place, place)
            self.assertIs(type(caught.exception.place), int)
            self.assertEqual(BadPress(place=place).place, place)

    def test_bad_log_and_bad_row_have_their_row(self):
        for refusal in ROWED:
            for row in (0, 1, 120):
                with self.subTest(refusal=refusal.__name__, row=row):
                    with self.assertRaises(refusal) as caught:
                        raise refusal(row)
                    self.assertEqual(caught.exception.row, row)
                    self.assertIs(type(caught.exception.row), int)
                    self.assertEqual(refusal(row=row).row, row)

    def test_each_object_has_its_own_field(self):
        first, second = BadPress(0), BadPress(1)
        self.assertEqual((first.place, second.place), (0, 1))
        first, second = BadLog(3), BadRow(4)
        self.assertEqual((first.row, second.row), (3, 4))


if __name__ == "__main__":
    unittest.main()
