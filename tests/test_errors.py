"""The refusals: their family, and their fields."""

import unittest

from heldmarks import errors

WITH_AT = ["NoTurn", "NoSet", "BelowNought"]
WITH_LINE = ["NoText"]
WITHOUT = ["TooMany", "NoNumber", "NoColours", "NoLeading", "NoRow", "NoName", "NoBack"]


def made():
    """One error of each class, by its name."""
    told = {name: getattr(errors, name)(3) for name in WITH_AT + WITH_LINE}
    told.update({name: getattr(errors, name)() for name in WITHOUT})
    return told


class TestErrors(unittest.TestCase):
    def test_each_is_a_mark_error_and_a_value_error(self):
        for name, error in made().items():
            with self.subTest(name):
                with self.assertRaises(errors.MarkError):
                    raise error
                with self.assertRaises(ValueError):
                    raise error

    def test_mark_error_is_a_value_error(self):
        self.assertEqual(errors.MarkError.__bases__, (ValueError,))

    def test_none_is_another_one(self):
        for name, error in made().items():
            for other in WITH_AT + WITH_LINE + WITHOUT:
                with self.subTest(name, other=other):
                    self.assertEqual(isinstance(error, getattr(errors, other)), name == other)

    def test_each_stands_right_under_mark_error(self):
        for name in WITH_AT + WITH_LINE + WITHOUT:
            self.assertEqual(getattr(errors, name).__bases__, (errors.MarkError,))

    def test_at_is_what_it_was_made_of(self):
        for name in WITH_AT:
            for at in (-1, 0, 1, 59):
                error = getattr(errors, name)(at)
                self.assertEqual(error.at, at)
                self.assertFalse(hasattr(error, "line"))

    def test_line_is_what_it_was_made_of(self):
        for line in (0, 1, 100):
            error = errors.NoText(line)
            self.assertEqual(error.line, line)
            self.assertFalse(hasattr(error, "at"))

    def test_those_with_a_field_are_not_made_of_none(self):
        for name in WITH_AT + WITH_LINE:
            with self.assertRaises(TypeError):
                getattr(errors, name)()

    def test_those_without_fields_have_none(self):
        for name in WITHOUT:
            error = getattr(errors, name)()
            self.assertFalse(hasattr(error, "at"))
            self.assertFalse(hasattr(error, "line"))


if __name__ == "__main__":
    unittest.main()
