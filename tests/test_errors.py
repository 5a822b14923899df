"""The refusals and their values (the interface, shiftsums/errors.py)."""

import unittest

from shiftsums.errors import Down, NoJoin, NoName, NoRow, NoText, NoWeb, NoWord, ShiftError, TooMany

WITH_AT = (NoWeb, Down)
PLAIN = (NoJoin, TooMany, NoRow, NoName, NoWord)
ALL = WITH_AT + (NoText,) + PLAIN


class Classes(unittest.TestCase):
    def test_shift_error_stands_under_value_error(self):
        self.assertEqual(ShiftError.__bases__, (ValueError,))

    def test_each_stands_straight_under_shift_error(self):
        for refusal in ALL:
            self.assertEqual(refusal.__bases__, (ShiftError,), refusal)

    def test_none_stands_under_another(self):
        for one in ALL:
            for other in ALL:
                self.assertEqual(issubclass(one, other), one is other, (one, other))

    def test_names(self):
        names = ["NoWeb", "Down", "NoText", "NoJoin", "TooMany", "NoRow", "NoName", "NoWord"]
        self.assertEqual([refusal.__name__ for refusal in ALL], names)


class Values(unittest.TestCase):
    def test_at_is_set_when_made(self):
        for refusal in WITH_AT:
            for at in (None, 0, 1, 72):
                self.assertEqual(refusal(at).at, at)
                self.assertEqual(refusal(at=at).at, at)

    def test_line_is_set_when_made(self):
        for line in (0, 1, 72):
            self.assertEqual(NoText(line).line, line)
            self.assertEqual(NoText(line=line).line, line)

    def test_each_object_has_its_own_value(self):
        for refusal in WITH_AT:
            first, second = refusal(3), refusal(None)
            self.assertEqual((first.at, second.at), (3, None))
        first, second = NoText(3), NoText(0)
        self.assertEqual((first.line, second.line), (3, 0))


class Raised(unittest.TestCase):
    def test_taken_as_any_refusal_with_its_value(self):
        for refusal in WITH_AT:
            with self.assertRaises(ShiftError) as taken:
                raise refusal(5)
            self.assertEqual(taken.exception.at, 5)
        with self.assertRaises(ShiftError) as taken:
            raise NoText(5)
        self.assertEqual(taken.exception.line, 5)

    def test_plain_ones_are_made_with_and_without_words(self):
        for refusal in PLAIN + (ShiftError,):
            with self.assertRaises(ShiftError):
                raise refusal()
            with self.assertRaises(ValueError):
                raise refusal("some words")


if __name__ == "__main__":
    unittest.main()
