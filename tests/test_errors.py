"""Stage 1: the errors, [1.1]."""

import unittest

from bondfloors import errors
from tests import helper

WITH_MESSAGE = ("InvalidSize", "InvalidFloor", "InvalidLine", "InvalidPlan", "InvalidOperation", "InvalidCommand")
BESIDE = (
    ("UnknownName", KeyError, "name"),
    ("InvalidNumber", IndexError, "value"),
    ("NothingToUndo", LookupError, "many"),
    ("Unlaid", LookupError, "value"),
    ("Refused", ArithmeticError, "name"),
    ("TooMany", OverflowError, "limit"),
)
KEEPING = (("ParseError", "line"),) + tuple((name, kept) for name, _, kept in BESIDE)
ALL = ("BondError",) + WITH_MESSAGE + tuple(name for name, _ in KEEPING)


def first_builtin(error):
    """The nearest of Python's own classes that the error is derived from."""
    return [base for base in error.__mro__ if base.__module__ == "builtins"][0]


class Derived(unittest.TestCase):
    def test_each_is_a_class_of_this_module(self):
        for name in ALL:
            with self.subTest(name):
                self.assertIsInstance(getattr(errors, name), type)
                self.assertEqual(getattr(errors, name).__module__, "bondfloors.errors")
                self.assertEqual(getattr(errors, name).__name__, name)

    def test_bond_error_is_a_value_error(self):
        self.assertIs(first_builtin(errors.BondError), ValueError)

    def test_those_directly_derived_from_bond_error(self):
        for name in WITH_MESSAGE + ("ParseError",):
            with self.subTest(name):
                self.assertEqual(getattr(errors, name).__bases__, (errors.BondError,))

    def test_those_derived_from_other_errors(self):
        for name, base, _ in BESIDE:
            with self.subTest(name):
                self.assertTrue(issubclass(getattr(errors, name), base))
                self.assertIs(first_builtin(getattr(errors, name)), base)

    def test_none_is_derived_from_another_one(self):
        for name in ALL:
            for other in ALL:
                if name != other and (other != "BondError" or name in [row[0] for row in BESIDE]):
                    with self.subTest(name=name, other=other):
                        self.assertFalse(issubclass(getattr(errors, name), getattr(errors, other)))

    def test_they_are_caught_by_what_they_are_derived_from(self):
        for name in WITH_MESSAGE:
            with self.subTest(name), self.assertRaises(ValueError):
                raise getattr(errors, name)("wrong")
        for name, base, _ in BESIDE:
            with self.subTest(name), self.assertRaises(base):
                raise getattr(errors, name)("wrong")


class Kept(unittest.TestCase):
    def test_a_message_is_taken(self):
        for name in ("BondError",) + WITH_MESSAGE:
            for message in ("", "wrong", "two\nlines"):
                with self.subTest(name=name, message=message):
                    error = getattr(errors, name)(message)
                    self.assertIsInstance(error, errors.BondError)

    def test_the_attribute_has_the_name_of_what_is_taken(self):
        values = [0, 1, 400, -3, helper.FORTY, "one", "", (3, 3, 2), ()] + helper.odd_values()
        for name, kept in KEEPING:
            for value in values:
                with self.subTest(name=name, value=value):
                    error = getattr(errors, name)(value)
                    self.assertEqual(getattr(error, kept), value)
                    self.assertIs(type(getattr(error, kept)), type(value))

    def test_each_error_keeps_its_own(self):
        for name, kept in KEEPING:
            with self.subTest(name):
                one, other = getattr(errors, name)(1), getattr(errors, name)(2)
                self.assertEqual([getattr(one, kept), getattr(other, kept)], [1, 2])

    def test_what_is_kept_is_a_copy(self):
        for name, kept in KEEPING:
            inner = [1]
            values = ([inner], (inner,), {"a": inner}, ({"a": (inner,)},))
            copies = ([[1]], ([1],), {"a": [1]}, ({"a": ([1],)},))
            made = [getattr(errors, name)(value) for value in values]
            inner.append(2)
            values[0].append(3)
            values[2]["b"] = 4
            for error, copy in zip(made, copies):
                with self.subTest(name=name, copy=copy):
                    self.assertEqual(getattr(error, kept), copy)

    def test_errors_cannot_be_iterated_over(self):
        for name in ALL:
            with self.subTest(name), self.assertRaises(TypeError):
                iter(getattr(errors, name)("wrong"))


if __name__ == "__main__":
    unittest.main()
