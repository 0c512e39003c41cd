"""[1.1] and [1.2]: the errors."""

import unittest

from tests.samples import FEW, STRANGE, nested
from twowaycuts import errors

DIRECT = ["InvalidLetters", "InvalidText", "InvalidWord", "InvalidBook", "InvalidPlan", "InvalidOperation", "ParseError"]
OTHERS = {
    "InvalidNumber": IndexError,
    "TooMany": OverflowError,
    "NothingToUndo": LookupError,
    "Clash": ArithmeticError,
    "NotFull": ArithmeticError,
}


class BookErrors(unittest.TestCase):
    def test_base(self):
        self.assertEqual(errors.BookError.__bases__, (ValueError,))

    def test_directly_derived(self):
        for name in DIRECT:
            self.assertEqual(getattr(errors, name).__bases__, (errors.BookError,), name)

    def test_not_from_one_another(self):
        for name in DIRECT:
            for other in DIRECT:
                if name != other:
                    self.assertFalse(issubclass(getattr(errors, name), getattr(errors, other)), (name, other))

    def test_messages(self):
        for name in DIRECT:
            if name != "ParseError":
                with self.assertRaises(errors.BookError) as caught:
                    raise getattr(errors, name)("so it is")
                self.assertEqual(str(caught.exception), "so it is")

    def test_parse_error(self):
        for index in [0, 1, 7, 10 ** 30]:
            error = errors.ParseError(index)
            self.assertEqual(error.index, index)
            self.assertIsInstance(str(error), str)


class OtherErrors(unittest.TestCase):
    def test_derived(self):
        for name, base in OTHERS.items():
            self.assertEqual(getattr(errors, name).__bases__, (base,), name)

    def test_not_derived(self):
        for name, base in OTHERS.items():
            kind = getattr(errors, name)
            for other in [errors.BookError, ValueError, IndexError, KeyError, OverflowError, ZeroDivisionError]:
                self.assertEqual(issubclass(kind, other), other is base, (name, other))
            for other in OTHERS:
                self.assertEqual(issubclass(kind, getattr(errors, other)), other == name)

    def test_kept(self):
        self.assertEqual(errors.TooMany(400).limit, 400)
        self.assertEqual(errors.TooMany(9).limit, 9)
        self.assertEqual(errors.NothingToUndo(3).many, 3)
        clash = errors.Clash("a", "ba")
        self.assertEqual((clash.one, clash.other), ("a", "ba"))
        self.assertEqual(errors.NotFull("aab").text, "aab")

    def test_have_messages(self):
        for error in [errors.TooMany(400), errors.NothingToUndo(3), errors.Clash("a", "ba"), errors.NotFull("aab")]:
            self.assertIsInstance(str(error), str)

    def test_invalid_number(self):
        values = STRANGE + [-3, 401, "it's", 'say "no"', "a\nb", "", (), nested("b", 10), slice(1, 2), 1.5]
        for value in values:
            error = errors.InvalidNumber(value)
            self.assertEqual(str(error), repr(value))
            self.assertIs(type(error.value), type(value))
            self.assertEqual(error.value, value)
        self.assertIs(errors.InvalidNumber(True).value, True)
        self.assertEqual(str(errors.InvalidNumber(FEW)), repr(FEW))

    def test_caught_by_base(self):
        with self.assertRaises(IndexError):
            raise errors.InvalidNumber(1)
        with self.assertRaises(OverflowError):
            raise errors.TooMany(1)
        with self.assertRaises(LookupError):
            raise errors.NothingToUndo(1)
        with self.assertRaises(ArithmeticError):
            raise errors.Clash("a", "aa")
        with self.assertRaises(ArithmeticError):
            raise errors.NotFull("a")


if __name__ == "__main__":
    unittest.main()
