"""Promise 4: the errors."""

import unittest

from wakesafe import errors
from tests.helper import no_names

WITH_WORD = ["InvalidFormula", "InvalidBlock", "InvalidMachine", "InvalidOrder"]
WITH_AT = ["InvalidText", "InvalidEvent", "Refused"]
WITHOUT = ["InvalidGoal", "InvalidCommand", "Mismatch"]


class ErrorsTest(unittest.TestCase):
    def test_base_class(self):
        self.assertEqual(errors.WakeError.__bases__, (ValueError,))

    def test_direct_subclasses(self):
        for name in WITH_WORD + WITH_AT + WITHOUT:
            self.assertEqual(getattr(errors, name).__bases__, (errors.WakeError,), name)

    def test_rule_and_name(self):
        self.assertEqual(errors.NoRule.__bases__, (IndexError,))
        self.assertEqual(errors.NoName.__bases__, (KeyError,))

    def check_attribute(self, name, attribute):
        kind = getattr(errors, name)
        for value in no_names() + ["x", {}, object(), 3.5, b"x"]:
            for error in (kind(value), kind(**{attribute: value})):
                self.assertIs(getattr(error, attribute), value)
                with self.assertRaises(kind) as caught:
                    raise error
                self.assertIs(getattr(caught.exception, attribute), value)

    def test_attributes(self):
        for name in WITH_WORD:
            self.check_attribute(name, "word")
        for name in WITH_AT + ["NoRule"]:
            self.check_attribute(name, "at")
        self.check_attribute("NoName", "name")

    def test_errors_without_arguments(self):
        for name in WITHOUT:
            with self.assertRaises(errors.WakeError) as caught:
                raise getattr(errors, name)()
            self.assertEqual(type(caught.exception).__name__, name)

    def test_caught_by_base_classes(self):
        with self.assertRaises(ValueError):
            raise errors.InvalidOrder("pairs")
        with self.assertRaises(IndexError):
            raise errors.NoRule(-1)
        with self.assertRaises(KeyError):
            raise errors.NoName("x")
        self.assertFalse(issubclass(errors.NoRule, errors.WakeError))
        self.assertFalse(issubclass(errors.NoName, errors.WakeError))


if __name__ == "__main__":
    unittest.main()
