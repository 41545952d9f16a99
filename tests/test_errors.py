"""The error classes (0.7 and the heading shapewright/errors.py)."""

import unittest

from shapewright import errors
from shapewright.errors import (
    BadModule, BadText, DuplicateName, NoBlock, NotShaped, NotUnifiable, NotWellFormed, OutOfRoom, ShapewrightError,
    TooLarge, UnknownName, Weak, WrongArity,
)

ALL = (
    BadText, NotWellFormed, NotUnifiable, TooLarge, UnknownName, WrongArity, DuplicateName, NotShaped, BadModule,
    OutOfRoom, NoBlock, Weak,
)


class ErrorsTest(unittest.TestCase):
    def test_every_error_is_a_shapewright_error_and_a_value_error(self):
        self.assertTrue(issubclass(ShapewrightError, ValueError))
        for kind in ALL:
            self.assertTrue(issubclass(kind, ShapewrightError), kind)
            self.assertEqual(kind.__module__, "shapewright.errors")

    def test_no_error_class_is_a_kind_of_another_one(self):
        for kind in ALL:
            for other in ALL:
                self.assertEqual(issubclass(kind, other), kind is other)

    def test_attributes(self):
        self.assertEqual(BadText(4).at, 4)
        self.assertEqual(UnknownName(("S", "x")).name, ("S", "x"))
        self.assertEqual(UnknownName(("svar", "a")).name, ("svar", "a"))
        self.assertEqual(WrongArity(("t",)).name, ("t",))
        self.assertEqual(DuplicateName("a").name, "a")
        self.assertEqual(Weak("r").name, "r")
        error = BadModule("missing", ("q",))
        self.assertEqual((error.code, error.path), ("missing", ("q",)))

    def test_errors_without_attributes_can_be_made(self):
        for kind in (NotWellFormed, NotUnifiable, TooLarge, NotShaped, OutOfRoom, NoBlock, ShapewrightError):
            self.assertIsInstance(kind("a text"), ShapewrightError)

    def test_the_module_has_no_other_classes(self):
        made = [value for value in vars(errors).values() if isinstance(value, type)]
        self.assertEqual(set(made), {ShapewrightError, *ALL})
