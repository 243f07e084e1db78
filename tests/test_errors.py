"""[9] The errors."""

import unittest

from eitherfields import errors
from eitherfields.errors import (
    Barred, FieldError, InvalidBook, InvalidChoice, InvalidCommand, InvalidEntry, InvalidField, InvalidFilling,
    InvalidIndex, InvalidPart, InvalidRule, InvalidSheet, InvalidWords, NoBlock, NothingToClear, NothingToUndo,
    Unkeepable)

OF_A_STRING = [InvalidSheet, InvalidField, InvalidEntry, InvalidRule, InvalidBook, InvalidPart, InvalidFilling,
               InvalidChoice, InvalidIndex, Unkeepable, NothingToClear, NoBlock, NothingToUndo, InvalidCommand]
SIXTEEN = [*OF_A_STRING, Barred, InvalidWords]


def made():
    return [kind("told") for kind in OF_A_STRING] + [Barred((0, 1)), InvalidWords(3)]


class Classes(unittest.TestCase):

    def test_all_are_directly_under_the_one(self):
        self.assertEqual(FieldError.__bases__, (ValueError,))
        for kind in SIXTEEN:
            self.assertEqual(kind.__bases__, (FieldError,), kind)

    def test_they_are_defined_in_this_file_under_their_names(self):
        names = [kind.__name__ for kind in [FieldError, *SIXTEEN]]
        self.assertEqual(len(set(names)), 17)
        for kind, name in zip([FieldError, *SIXTEEN], names):
            self.assertIs(getattr(errors, name), kind)
            self.assertEqual(kind.__module__, "eitherfields.errors")

    def test_none_is_under_another_one_of_the_sixteen(self):
        for error, kind in zip(made(), SIXTEEN):
            self.assertIs(type(error), kind)
            self.assertIsInstance(error, FieldError)
            self.assertIsInstance(error, ValueError)
            self.assertEqual([other for other in SIXTEEN if isinstance(error, other)], [kind])

    def test_each_can_be_raised_and_caught_by_each_of_its_names(self):
        for error, kind in zip(made(), SIXTEEN):
            for name in (kind, FieldError, ValueError):
                with self.assertRaises(name) as caught:
                    raise error
                self.assertIs(caught.exception, error)

    def test_they_are_made_with_any_string(self):
        for kind in [FieldError, *OF_A_STRING]:
            for text in ("", "one", "two\nlines", "a" * 4000):
                self.assertIs(type(kind(text)), kind)


class Arguments(unittest.TestCase):

    def test_barred_keeps_its_fields(self):
        for fields in ((), (0,), (7,), (0, 1), (3, 7)):
            for error in (Barred(fields), Barred(fields=fields)):
                self.assertEqual(error.fields, fields)
                self.assertIs(type(error.fields), tuple)

    def test_invalid_words_keeps_its_place(self):
        for place in (0, 1, 17, 2000):
            for error in (InvalidWords(place), InvalidWords(place=place)):
                self.assertEqual(error.place, place)
                self.assertIs(type(error.place), int)

    def test_two_objects_have_each_its_own(self):
        one, other, last = Barred((0,)), Barred(fields=(1, 2)), Barred(())
        self.assertEqual((one.fields, other.fields, last.fields), ((0,), (1, 2), ()))
        one, other, last = InvalidWords(4), InvalidWords(place=5), InvalidWords(0)
        self.assertEqual((one.place, other.place, last.place), (4, 5, 0))

    def test_they_are_kept_where_the_error_is_caught(self):
        with self.assertRaises(FieldError) as caught:
            raise Barred((2, 5))
        self.assertEqual(caught.exception.fields, (2, 5))
        with self.assertRaises(FieldError) as caught:
            raise InvalidWords(6)
        self.assertEqual(caught.exception.place, 6)

    def test_the_argument_must_be_given_once(self):
        for kind in (Barred, InvalidWords):
            with self.assertRaises(TypeError):
                kind()
            with self.assertRaises(TypeError):
                kind((0,), (1,))


if __name__ == "__main__":
    unittest.main()
