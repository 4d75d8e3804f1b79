import unittest

from nextcode import errors
from tests.helper import Agreeing, Sour, odd_values

FIELDS = {
    "BadKind": ("kind",), "BadUps": ("ups",), "BadLine": ("line",), "Refused": ("line",), "BadTree": ("tree",),
    "BadHanded": ("handed",), "BadPromise": ("promise",), "NoLine": ("line",), "BadSize": ("n",), "OtherUps": (),
    "BadName": ("name",), "NoDeed": ("name",), "NoWalker": ("name",), "NothingToUndo": (),
    "TooMany": ("what", "many", "most"),
}


class Errors(unittest.TestCase):
    def test_base_is_a_value_error(self):
        self.assertTrue(issubclass(errors.TreeError, ValueError))
        self.assertEqual(errors.TreeError.__bases__, (ValueError,))

    def test_fifteen_directly_below_the_base(self):
        below = {name for name, value in vars(errors).items()
                 if isinstance(value, type) and issubclass(value, errors.TreeError)} - {"TreeError"}
        self.assertEqual(below, set(FIELDS))
        self.assertEqual(len(FIELDS), 15)
        for name in FIELDS:
            self.assertEqual(getattr(errors, name).__bases__, (errors.TreeError,), name)

    def test_fields_by_position_and_by_name(self):
        for name, fields in FIELDS.items():
            make = getattr(errors, name)
            for odd in odd_values() + [None, True, False, "x", 10 ** 100]:
                handed = [(odd, place) for place in range(len(fields))]
                for error in (make(*handed), make(**dict(zip(fields, handed)))):
                    for field, value in zip(fields, handed):
                        self.assertIs(getattr(error, field), value)

    def test_values_are_kept_themselves(self):
        for name, fields in FIELDS.items():
            for value in (Sour(), Agreeing(), [1], {}, None):
                error = getattr(errors, name)(*[value for _ in fields])
                for field in fields:
                    self.assertIs(getattr(error, field), value)

    def test_no_more_and_no_less_than_the_fields(self):
        for name, fields in FIELDS.items():
            make = getattr(errors, name)
            with self.assertRaises(TypeError):
                make(*range(len(fields) + 1))
            if fields:
                with self.assertRaises(TypeError):
                    make()

    def test_raised_and_caught_by_the_base(self):
        for name, fields in FIELDS.items():
            with self.assertRaises(errors.TreeError):
                raise getattr(errors, name)(*fields)
