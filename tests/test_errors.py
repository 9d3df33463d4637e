"""The error classes: their bases, and what they keep."""

import unittest

from tests.helpers import are_same, values_of_every_kind
from whatparts import errors
from whatparts.errors import InvalidJoint, InvalidNumber, InvalidOperation, InvalidPart, InvalidWish
from whatparts.errors import NothingToUndo, ParseError, PartError, Refused, TooMany, UnknownName

BASES = {
    PartError: ValueError,
    InvalidPart: PartError,
    InvalidWish: PartError,
    InvalidJoint: PartError,
    InvalidOperation: PartError,
    ParseError: PartError,
    UnknownName: KeyError,
    InvalidNumber: RuntimeError,
    TooMany: OverflowError,
    NothingToUndo: IndexError,
    Refused: ArithmeticError,
}
PLAIN = (PartError, InvalidPart, InvalidWish, InvalidJoint, InvalidOperation)
KEEPS = {ParseError: "line", UnknownName: "name", InvalidNumber: "value", TooMany: "limit", NothingToUndo: "many"}


class Bases(unittest.TestCase):
    def test_direct_base(self):
        for kind, base in BASES.items():
            self.assertEqual(kind.__bases__, (base,), kind)

    def test_own_module(self):
        for kind in BASES:
            self.assertEqual(kind.__module__, "whatparts.errors")
            self.assertIs(vars(errors)[kind.__name__], kind)

    def test_which_are_part_errors(self):
        for kind in (UnknownName, InvalidNumber, TooMany, NothingToUndo, Refused):
            self.assertFalse(issubclass(kind, PartError), kind)
            self.assertFalse(issubclass(kind, ValueError), kind)
        for kind in (*PLAIN, ParseError):
            self.assertTrue(issubclass(kind, PartError), kind)

    def test_none_is_a_kind_of_another(self):
        for kind in BASES:
            for other in BASES:
                if other is not kind and other is not PartError:
                    self.assertFalse(issubclass(kind, other), (kind, other))
            others = {ValueError, KeyError, RuntimeError, OverflowError, IndexError} - set(kind.__mro__)
            for other in others:
                self.assertFalse(issubclass(kind, other))
        self.assertFalse(issubclass(Refused, OverflowError))
        self.assertTrue(issubclass(TooMany, ArithmeticError))


class Taken(unittest.TestCase):
    def test_one_argument_of_any_kind(self):
        for kind in PLAIN:
            for value in values_of_every_kind():
                with self.assertRaises(kind) as caught:
                    raise kind(value)
                self.assertIs(type(caught.exception), kind)
                with self.assertRaises(PartError):
                    raise kind(value)

    def test_no_argument(self):
        for kind in PLAIN:
            with self.assertRaises(ValueError) as caught:
                raise kind()
            self.assertIs(type(caught.exception), kind)
            with self.assertRaises(kind):
                raise kind

    def test_what_is_kept(self):
        for kind, attribute in KEEPS.items():
            for value in values_of_every_kind():
                with self.assertRaises(BASES[kind]) as caught:
                    raise kind(value)
                self.assertIs(type(caught.exception), kind)
                self.assertTrue(are_same(getattr(caught.exception, attribute), value))

    def test_refused_keeps_both(self):
        for value in values_of_every_kind():
            with self.assertRaises(ArithmeticError) as caught:
                raise Refused(value, "open")
            self.assertTrue(are_same(caught.exception.name, value))
            self.assertEqual(caught.exception.reason, "open")
            self.assertTrue(are_same(Refused("left", value).reason, value))


if __name__ == "__main__":
    unittest.main()
