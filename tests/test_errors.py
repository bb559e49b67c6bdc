"""Tests of stayswithin/errors.py."""

import unittest

from stayswithin import errors
from stayswithin.errors import (
    BadLine, BadMachine, BadPoint, BadRow, BadWeights, BoundError, NoPoint, Outside, TooManySteps)

KINDS = {
    "BadPoint": BadPoint, "BadWeights": BadWeights, "BadLine": BadLine, "NoPoint": NoPoint,
    "BadRow": BadRow, "BadMachine": BadMachine, "TooManySteps": TooManySteps, "Outside": Outside}
PLACES = (0, 1, 12, 10 ** 30, "divisor", "")


class TheBase(unittest.TestCase):
    def test_is_a_value_error(self):
        self.assertEqual(BoundError.__bases__, (ValueError,))

    def test_word_and_place(self):
        error = BoundError("Odd", 3)
        self.assertEqual((error.word, error.place), ("Odd", 3))

    def test_place_is_none_if_not_passed(self):
        error = BoundError("Odd")
        self.assertEqual(error.word, "Odd")
        self.assertIsNone(error.place)

    def test_by_name(self):
        error = BoundError(place="a", word="Odd")
        self.assertEqual((error.word, error.place), ("Odd", "a"))

    def test_the_word_is_needed(self):
        with self.assertRaises(TypeError):
            BoundError()


class TheKinds(unittest.TestCase):
    def test_all_are_defined_in_the_file_and_there_is_no_other(self):
        found = {name for name, value in vars(errors).items() if isinstance(value, type)}
        self.assertEqual(found, set(KINDS) | {"BoundError"})
        for kind in (BoundError, *KINDS.values()):
            self.assertEqual(kind.__module__, "stayswithin.errors")

    def test_each_stands_directly_under_the_base(self):
        for name, kind in KINDS.items():
            with self.subTest(name):
                self.assertEqual(kind.__name__, name)
                self.assertEqual(kind.__bases__, (BoundError,))
                self.assertIn("__init__", vars(kind))

    def test_without_a_place(self):
        for name, kind in KINDS.items():
            with self.subTest(name):
                error = kind()
                self.assertEqual(error.word, name)
                self.assertIsNone(error.place)

    def test_with_a_place_by_position_and_by_name(self):
        for name, kind in KINDS.items():
            for place in PLACES:
                with self.subTest(name, place=place):
                    self.assertEqual((kind(place).word, kind(place).place), (name, place))
                    self.assertEqual((kind(place=place).word, kind(place=place).place), (name, place))

    def test_takes_nothing_but_a_place(self):
        for name, kind in KINDS.items():
            with self.subTest(name), self.assertRaises(TypeError):
                kind(1, 2)

    def test_no_kind_is_an_instance_of_another_one(self):
        for name, kind in KINDS.items():
            for other_name, other in KINDS.items():
                with self.subTest(name, other=other_name):
                    self.assertEqual(isinstance(kind(1), other), name == other_name)

    def test_each_is_raised_and_caught_as_its_bases(self):
        for name, kind in KINDS.items():
            for base in (kind, BoundError, ValueError):
                with self.subTest(name, base=base.__name__):
                    with self.assertRaises(base) as caught:
                        raise kind(4)
                    self.assertEqual(caught.exception.place, 4)
                    self.assertIsInstance(str(caught.exception), str)

    def test_two_errors_keep_their_own_places(self):
        first, second = BadPoint(1), BadPoint(2)
        self.assertEqual((first.place, second.place), (1, 2))


if __name__ == "__main__":
    unittest.main()
