"""The errors, and what they keep."""

import unittest

from tests.helpers import WRONG, is_equal
from wholebyparts import errors

OF_PARTS = (
    "InvalidStructure", "InvalidRow", "InvalidFormula", "InvalidKind", "InvalidReader", "InvalidWord", "InvalidRule",
    "InvalidShape", "InvalidParts", "InvalidBook", "InvalidClaim", "InvalidText", "InvalidOperation", "ParseError",
)
OTHERS = {
    "InvalidNumber": IndexError, "UnknownName": KeyError, "TooMany": OverflowError, "NothingToUndo": LookupError,
    "Refused": ArithmeticError,
}
KEPT = {
    "ParseError": "spot", "InvalidNumber": "given", "UnknownName": "wanted", "TooMany": "limit",
    "NothingToUndo": "wanted", "Refused": "reason",
}


class Errors(unittest.TestCase):
    def test_what_they_derive_from(self):
        self.assertEqual(errors.PartError.__bases__, (ValueError,))
        for name in OF_PARTS:
            self.assertEqual(getattr(errors, name).__bases__, (errors.PartError,), name)
        for name, base in OTHERS.items():
            self.assertEqual(getattr(errors, name).__bases__, (base,), name)

    def test_what_they_keep(self):
        for name, attribute in KEPT.items():
            for value in WRONG:
                error = getattr(errors, name)(value)
                self.assertIs(getattr(error, attribute), value)

    def test_messages(self):
        for name in ("PartError", *OF_PARTS):
            if name not in KEPT:
                with self.assertRaises(getattr(errors, name)):
                    raise getattr(errors, name)("a message")

    def test_values_are_told_apart(self):
        self.assertFalse(is_equal(True, 1))


if __name__ == "__main__":
    unittest.main()
