"""Points [18] and [3]: the error classes."""

import unittest

from lazyspill import errors
from lazyspill.errors import SpillError

FIELDS = {
    "InvalidTrace": "index", "InvalidPlan": "index", "InvalidRow": "index", "InvalidTree": "index",
    "InvalidMoments": "index", "InvalidBlocks": "index", "InvalidFuture": "index", "InvalidCounts": "index",
    "InvalidChoices": "index", "InvalidProgram": "index", "InvalidSyntax": "word", "TooLong": "limit",
    "Refused": "moved",
}
TEXTS = [
    "InvalidRegisters", "InvalidTop", "InvalidNumber", "InvalidRule", "InvalidCommand", "NotClosed", "Bounded",
    "Empty", "Fixed", "NothingToUndo",
]


class ErrorsTest(unittest.TestCase):

    def test_each_class_is_there_and_no_other_one(self):
        found = [name for name, value in vars(errors).items() if isinstance(value, type)]
        self.assertEqual(sorted(found), sorted([*FIELDS, *TEXTS, "SpillError"]))

    def test_each_class_derives_from_spill_error_only(self):
        self.assertEqual(SpillError.__mro__[1:], ValueError.__mro__)
        for name in [*FIELDS, *TEXTS]:
            with self.subTest(name=name):
                self.assertEqual(getattr(errors, name).__mro__[1:], SpillError.__mro__)

    def test_fields_by_position_and_by_name(self):
        for name, field in FIELDS.items():
            for value in (0, 7, 1000, 10 ** 40, None):
                with self.subTest(name=name, value=value):
                    made = getattr(errors, name)
                    for error in (made(value), made(**{field: value})):
                        self.assertEqual(vars(error), {field: value})

    def test_a_field_is_required(self):
        for name in FIELDS:
            with self.subTest(name=name):
                with self.assertRaises(TypeError):
                    getattr(errors, name)()

    def test_the_others_take_one_string(self):
        for name in [*TEXTS, "SpillError"]:
            with self.subTest(name=name):
                error = getattr(errors, name)("a text")
                self.assertEqual((str(error), error.args, vars(error)), ("a text", ("a text",), {}))

    def test_errors_are_caught_as_spill_error_and_as_value_error(self):
        for name in [*FIELDS, *TEXTS]:
            for kind in (getattr(errors, name), SpillError, ValueError):
                with self.subTest(name=name, kind=kind):
                    with self.assertRaises(kind):
                        raise getattr(errors, name)("x")

    def test_fields_of_two_errors_are_their_own(self):
        first, second = errors.InvalidTrace(1), errors.InvalidTrace(2)
        self.assertEqual((first.index, second.index), (1, 2))


if __name__ == "__main__":
    unittest.main()
