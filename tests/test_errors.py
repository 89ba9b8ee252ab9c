"""The error classes of the interface."""

import unittest

from squarecall import errors
from squarecall.errors import (
    Blind, Broken, FloorError, Meet, NoCall, NoName, NoPairs, NoProgram, NoRow, NotEven, Out, TooMany,
)

OF_A_TEXT = (NotEven, NoCall, NoName, NoProgram, TooMany, NoPairs, NoRow)
WITH_FIELDS = (Blind, Out, Meet, Broken)


class Bases(unittest.TestCase):
    def test_floor_error_is_a_value_error(self):
        self.assertEqual(FloorError.__bases__, (ValueError,))

    def test_each_is_right_under_floor_error(self):
        for kind in OF_A_TEXT + WITH_FIELDS:
            with self.subTest(kind=kind):
                self.assertEqual(kind.__bases__, (FloorError,))

    def test_none_is_under_another_one(self):
        kinds = OF_A_TEXT + WITH_FIELDS
        for one in kinds:
            for other in kinds:
                with self.subTest(one=one, other=other):
                    self.assertEqual(issubclass(one, other), one is other)

    def test_each_is_called_as_the_interface_says(self):
        for kind in OF_A_TEXT + WITH_FIELDS + (FloorError,):
            with self.subTest(kind=kind):
                self.assertIs(getattr(errors, kind.__name__), kind)


class OfAText(unittest.TestCase):
    def test_made_of_a_text(self):
        for kind in OF_A_TEXT + (FloorError,):
            with self.subTest(kind=kind):
                self.assertEqual(str(kind("some words")), "some words")

    def test_taken_as_a_floor_error_and_as_a_value_error(self):
        for kind in OF_A_TEXT:
            for above in (kind, FloorError, ValueError):
                with self.subTest(kind=kind, above=above):
                    with self.assertRaises(above):
                        raise kind("some words")


class Fields(unittest.TestCase):
    def test_who(self):
        for kind in (Blind, Out):
            for who in range(8):
                with self.subTest(kind=kind, who=who):
                    self.assertEqual(kind(who).who, who)
                    self.assertEqual(kind(who=who).who, who)

    def test_one_and_other(self):
        for one in range(8):
            for other in range(8):
                error = Meet(one, other)
                self.assertEqual((error.one, error.other), (one, other))
        error = Meet(other=6, one=2)
        self.assertEqual((error.one, error.other), (2, 6))

    def test_at_and_why(self):
        for why in (Blind(3), Out(0), Meet(1, 2), NoPairs("a row of three")):
            for at in (0, 1, 399, 400):
                with self.subTest(at=at, why=why):
                    error = Broken(at, why)
                    self.assertEqual(error.at, at)
                    self.assertIs(error.why, why)
        why = Out(5)
        error = Broken(why=why, at=7)
        self.assertEqual(error.at, 7)
        self.assertIs(error.why, why)

    def test_each_object_has_its_own(self):
        first = Blind(1)
        second = Blind(2)
        self.assertEqual((first.who, second.who), (1, 2))
        first = Meet(0, 1)
        second = Meet(2, 3)
        self.assertEqual((first.one, first.other, second.one, second.other), (0, 1, 2, 3))

    def test_fields_are_there_where_it_is_taken(self):
        with self.assertRaises(FloorError) as taken:
            raise Broken(12, Meet(4, 5))
        self.assertEqual(taken.exception.at, 12)
        self.assertEqual(taken.exception.why.one, 4)
        self.assertEqual(taken.exception.why.other, 5)

    def test_each_has_words_of_its_own(self):
        for error in (Blind(3), Out(3), Meet(3, 4), Broken(3, Out(4))):
            with self.subTest(error=error):
                self.assertNotEqual(str(error), "")


if __name__ == "__main__":
    unittest.main()
