"""[4]: the errors."""

import unittest

from contrabooks import errors
from tests.values import any_values

WORDED = ("InvalidMove", "InvalidRow", "InvalidHouse", "InvalidReport")
NUMBERED = ("InvalidText", "Refused")
PLAIN = ("InvalidGoal", "InvalidCommand")
MISSING = ("NoEntry", "NoRow")


class Errors(unittest.TestCase):
    def test_base_class(self):
        self.assertEqual(errors.BookError.__bases__, (ValueError,))

    def test_direct_subclasses(self):
        for name in WORDED + NUMBERED + PLAIN:
            self.assertEqual(getattr(errors, name).__bases__, (errors.BookError,), name)

    def test_missing_things_are_index_errors(self):
        for name in MISSING:
            self.assertEqual(getattr(errors, name).__bases__, (IndexError,), name)

    def test_defined_in_the_module(self):
        for name in ("BookError",) + WORDED + NUMBERED + PLAIN + MISSING:
            self.assertEqual(getattr(errors, name).__module__, "contrabooks.errors")

    def test_no_other_errors(self):
        found = {name for name in vars(errors) if not name.startswith("__")}
        self.assertEqual(found, {"BookError"} | set(WORDED + NUMBERED + PLAIN + MISSING))

    def test_word_is_kept_itself(self):
        for name in WORDED:
            for thing in any_values() + [object(), {}, 1.5]:
                self.assertIs(getattr(errors, name)(thing).word, thing)
                self.assertIs(getattr(errors, name)(word=thing).word, thing)

    def test_number_is_kept_itself(self):
        for name in NUMBERED + MISSING:
            for thing in any_values() + [object(), {}, 1.5]:
                self.assertIs(getattr(errors, name)(thing).at, thing)
                self.assertIs(getattr(errors, name)(at=thing).at, thing)

    def test_later_changes_of_what_is_kept_show(self):
        told = []
        error = errors.InvalidText(told)
        told.append(1)
        self.assertEqual(error.at, [1])

    def test_arguments_are_asked(self):
        for name in WORDED + NUMBERED + MISSING:
            with self.assertRaises(TypeError):
                getattr(errors, name)()
        for name in PLAIN:
            self.assertIsInstance(getattr(errors, name)(), errors.BookError)
            with self.assertRaises(TypeError):
                getattr(errors, name)("word")

    def test_raised_and_caught(self):
        for name in WORDED + NUMBERED:
            with self.assertRaises(errors.BookError):
                raise getattr(errors, name)("thing")
        for name in MISSING:
            with self.assertRaises(LookupError):
                raise getattr(errors, name)(7)


if __name__ == "__main__":
    unittest.main()
