import unittest

from grownlines import errors

from tests.helpers import VALUES

MESSAGES = ["InvalidGrid", "InvalidPoint", "InvalidRule", "InvalidScheme", "InvalidStand", "InvalidPaper",
            "InvalidOperation"]
KEEPERS = [("ParseError", errors.LineError, "number"), ("UnknownLetter", KeyError, "word"),
           ("UnknownAddress", LookupError, "lost"), ("InvalidNumber", IndexError, "value"),
           ("NothingToUndo", RuntimeError, "many"), ("TooMany", OverflowError, "limit"),
           ("Refused", ArithmeticError, "pledge"), ("NoQuotient", ZeroDivisionError, "divisor")]


class Errors(unittest.TestCase):
    def test_each_is_derived_directly_from_its_base_alone(self):
        self.assertEqual(errors.LineError.__bases__, (ValueError,))
        for name in MESSAGES:
            self.assertEqual(getattr(errors, name).__bases__, (errors.LineError,), name)
        for name, base, _ in KEEPERS:
            self.assertEqual(getattr(errors, name).__bases__, (base,), name)

    def test_none_is_derived_from_another_one(self):
        names = MESSAGES + [name for name, _, _ in KEEPERS]
        for one in names:
            for other in names:
                found = issubclass(getattr(errors, one), getattr(errors, other))
                self.assertEqual(found, one == other, (one, other))

    def test_only_its_own_errors_belong_to_line_error(self):
        for name, _, _ in KEEPERS[1:]:
            self.assertFalse(issubclass(getattr(errors, name), errors.LineError), name)
            self.assertFalse(issubclass(getattr(errors, name), ValueError), name)

    def test_each_keeps_what_it_takes(self):
        for name, _, attribute in KEEPERS:
            for value in VALUES:
                self.assertIs(getattr(getattr(errors, name)(value), attribute), value, name)

    def test_each_that_takes_a_message_takes_one(self):
        for name in MESSAGES + ["LineError"]:
            self.assertIsInstance(getattr(errors, name)("why"), errors.LineError)

    def test_each_is_caught_by_its_own_name_and_by_its_bases(self):
        for name in MESSAGES + ["ParseError"]:
            for base in (getattr(errors, name), errors.LineError, ValueError):
                with self.assertRaises(base):
                    raise getattr(errors, name)("why")
        for name, base, _ in KEEPERS:
            for caught in (getattr(errors, name), base):
                with self.assertRaises(caught):
                    raise getattr(errors, name)((1, 2))


if __name__ == "__main__":
    unittest.main()
