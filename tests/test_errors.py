"""Promise [5]: the errors and their fields."""

import unittest

from plain import values
from rankpicks import errors

FIELDS = {
    "InvalidName": "value",
    "InvalidNumber": "value",
    "InvalidTree": "value",
    "InvalidLot": "value",
    "InvalidList": "value",
    "InvalidReport": "value",
    "InvalidLevels": "value",
    "InvalidText": "spot",
    "Unknown": "which",
    "Lacking": "which",
}


class Errors(unittest.TestCase):
    def test_base_is_a_value_error(self):
        self.assertEqual(errors.RankError.__bases__, (ValueError,))

    def test_each_class_is_derived_directly_from_the_base(self):
        for name in FIELDS:
            self.assertEqual(getattr(errors, name).__bases__, (errors.RankError,), name)

    def test_field_by_position(self):
        for name, field in FIELDS.items():
            for value in values():
                self.assertIs(getattr(getattr(errors, name)(value), field), value)

    def test_field_by_name(self):
        for name, field in FIELDS.items():
            for value in values():
                self.assertIs(getattr(getattr(errors, name)(**{field: value}), field), value)

    def test_field_is_none_without_a_value(self):
        for name, field in FIELDS.items():
            error = getattr(errors, name)()
            self.assertEqual(vars(error), {field: None})

    def test_errors_are_raised_and_caught_by_each_base(self):
        for name, field in FIELDS.items():
            for base in (getattr(errors, name), errors.RankError, ValueError):
                with self.assertRaises(base) as caught:
                    raise getattr(errors, name)("x")
                self.assertEqual(getattr(caught.exception, field), "x")

    def test_one_class_is_not_another(self):
        for name in FIELDS:
            for other in FIELDS:
                same = issubclass(getattr(errors, name), getattr(errors, other))
                self.assertEqual(same, name == other)


if __name__ == "__main__":
    unittest.main()
