"""[0]: the errors, their base, and what they keep."""

import unittest

from maypoint import errors
from maypoint.errors import OwnError

AT = ("BadNumber", "BadStretch", "BadOctets", "BadPast", "BadDeed", "BadRule", "BadRow", "BadText")


class Errors(unittest.TestCase):

    def test_base(self):
        self.assertEqual(OwnError.__bases__, (ValueError,))
        for name in AT + ("Refused",):
            self.assertEqual(getattr(errors, name).__bases__, (OwnError,), name)

    def test_no_other_subclass(self):
        told = {kind.__name__ for kind in OwnError.__subclasses__()}
        self.assertEqual(told, set(AT + ("Refused",)))

    def test_argument_is_kept(self):
        for value in (-1, 0, 7, None, "x", (1, (2,)), [3], True):
            for name in AT:
                kind = getattr(errors, name)
                self.assertEqual(repr(vars(kind(value))), repr({"at": value}))
                self.assertEqual(repr(vars(kind(at=value))), repr({"at": value}))
            self.assertEqual(repr(vars(errors.Refused(value))), repr({"value": value}))
            self.assertEqual(repr(vars(errors.Refused(value=value))), repr({"value": value}))
