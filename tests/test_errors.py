"""The errors: points [3] and [4] and the heading fewchairs/errors.py."""

import unittest

from fewchairs import errors
from fewchairs.customnumbers import custom_at
from fewchairs.houses import House

FIELDS = {
    "BadHouse": ["what"], "BadCrowd": ["crowd"], "BadKind": ["kind"], "BadOrder": ["at"],
    "BadCustom": ["at"], "BadNumber": ["number"], "TooManyOf": ["kind"], "TooLarge": ["size"],
    "Unfinished": ["meeting"], "NobodyAway": ["kind"], "NobodyThere": ["kind"], "NotFree": ["group"],
    "WrongHouse": ["what"], "NoSuchEnd": ["crowd"], "BadSeats": ["crowd"],
    "Clash": ["crowd", "kind", "other"], "BadShares": ["what"], "BadCards": ["at"],
    "BadRoute": ["kind"], "NotUnderWay": ["kind", "hall"], "NotNested": ["chairs", "crowd"],
    "NoChair": ["chairs"], "BadText": ["text"], "BadLine": ["number", "reason"],
    "NothingToUndo": ["word"],
}


class Errors(unittest.TestCase):
    def test_hall_error_derives_from_value_error(self):
        self.assertEqual(errors.HallError.__bases__, (ValueError,))

    def test_each_error_derives_directly_from_hall_error(self):
        for name in FIELDS:
            with self.subTest(name):
                self.assertEqual(getattr(errors, name).__bases__, (errors.HallError,))
                self.assertEqual(getattr(errors, name).__module__, "fewchairs.errors")

    def test_fields_are_stored_in_the_order_of_the_arguments(self):
        for name, fields in FIELDS.items():
            with self.subTest(name):
                worth = [(position, "worth") for position in range(len(fields))]
                error = getattr(errors, name)(*worth)
                self.assertEqual(vars(error), dict(zip(fields, worth)))

    def test_fields_have_the_names_of_the_arguments(self):
        for name, fields in FIELDS.items():
            with self.subTest(name):
                code = getattr(errors, name).__init__.__code__
                self.assertEqual(list(code.co_varnames[1:code.co_argcount]), fields)

    def test_an_error_with_a_very_long_number_can_be_raised_and_shown(self):
        number = 10 ** 5000
        with self.assertRaises(errors.BadNumber) as caught:
            custom_at(House(2, 2), number)
        self.assertEqual(caught.exception.number, number)
        self.assertIsInstance(str(caught.exception), str)
        self.assertIsInstance(repr(caught.exception), str)


if __name__ == "__main__":
    unittest.main()
