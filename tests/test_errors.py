"""[5]: the error classes."""

import inspect
import unittest

from twinties import errors

WITH_VALUE = [
    "InvalidNumber", "InvalidCompany", "InvalidPerson", "InvalidCouple", "InvalidLot", "InvalidDeed", "InvalidPrices",
    "InvalidWishes", "InvalidProgram", "InvalidLeague", "InvalidLine", "Unlike", "TooMany",
]
WITHOUT_FIELD = ["NothingToUndo", "NothingToRedo"]


class ErrorsTest(unittest.TestCase):
    def test_all_are_there_and_nothing_else(self):
        classes = [name for name, thing in vars(errors).items() if inspect.isclass(thing)]
        self.assertEqual(sorted(classes), sorted(["TieError"] + WITH_VALUE + WITHOUT_FIELD))
        for name in classes:
            self.assertEqual(getattr(errors, name).__module__, "twinties.errors")

    def test_tie_error_is_derived_from_value_error_without_a_field(self):
        self.assertEqual(errors.TieError.__bases__, (ValueError,))
        self.assertEqual(vars(errors.TieError()), {})

    def test_all_others_are_directly_under_tie_error(self):
        for name in WITH_VALUE + WITHOUT_FIELD:
            self.assertEqual(getattr(errors, name).__bases__, (errors.TieError,), name)

    def test_value_by_position_by_name_or_none(self):
        for name in WITH_VALUE:
            error = getattr(errors, name)
            for value in ([1, [2]], "text", 0, False, (), None):
                self.assertIs(error(value).value, value)
                self.assertIs(error(value=value).value, value)
                self.assertEqual(list(vars(error(value))), ["value"])
            self.assertIsNone(error().value)
            with self.assertRaises(TypeError):
                error(1, 2)

    def test_no_field_where_none_is_told(self):
        for name in WITHOUT_FIELD:
            self.assertEqual(vars(getattr(errors, name)()), {})

    def test_they_can_be_raised_and_caught(self):
        for name in WITH_VALUE + WITHOUT_FIELD:
            for kind in (getattr(errors, name), errors.TieError, ValueError):
                with self.assertRaises(kind):
                    raise getattr(errors, name)()


if __name__ == "__main__":
    unittest.main()
