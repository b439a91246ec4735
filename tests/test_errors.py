"""[4]: the errors."""

import unittest

from allrows import errors

WITH_WORD = ("InvalidReader", "InvalidChange", "InvalidCount", "InvalidSum", "InvalidHouse", "InvalidSaying", "InvalidSight",
             "InvalidCondition", "InvalidRules", "InvalidBook")
WITH_AT = ("InvalidTerm", "InvalidText", "Refused")
WITH_NAME = ("Bound", "NoRow")
WITH_NOTHING = ("InvalidLot", "InvalidRow", "InvalidWord", "InvalidCommand", "Mismatch")
KEY_ERRORS = (("NoName", "name"), ("NoMark", "mark"))


class ErrorsTest(unittest.TestCase):
    def test_base_class(self):
        self.assertEqual(errors.RowError.__bases__, (ValueError,))

    def test_direct_subclasses(self):
        for name in WITH_WORD + WITH_AT + WITH_NAME + WITH_NOTHING:
            self.assertEqual(getattr(errors, name).__bases__, (errors.RowError,), name)
        self.assertEqual(len(errors.RowError.__subclasses__()), 20)

    def test_missing_names_and_marks_are_key_errors(self):
        for name, _ in KEY_ERRORS:
            self.assertEqual(getattr(errors, name).__bases__, (KeyError,), name)

    def test_arguments_are_kept_themselves(self):
        told = [(name, "word") for name in WITH_WORD] + [(name, "at") for name in WITH_AT]
        told += [(name, "name") for name in WITH_NAME] + list(KEY_ERRORS)
        for name, argument in told:
            for thing in (3, None, ["a", [1]], object(), ("x",), True):
                self.assertIs(getattr(getattr(errors, name)(thing), argument), thing)
                self.assertIs(getattr(getattr(errors, name)(**{argument: thing}), argument), thing)

    def test_arguments_are_wanted(self):
        for name in WITH_WORD + WITH_AT + WITH_NAME + ("NoName", "NoMark"):
            with self.assertRaises(TypeError):
                getattr(errors, name)()

    def test_errors_without_arguments(self):
        for name in WITH_NOTHING:
            with self.assertRaises(errors.RowError):
                raise getattr(errors, name)()

    def test_they_can_be_shown(self):
        self.assertIn("steps", str(errors.InvalidReader("steps")))
        self.assertIn("xx", str(errors.NoName("xx")))


if __name__ == "__main__":
    unittest.main()
