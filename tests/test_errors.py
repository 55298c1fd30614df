"""The errors of the interface."""

import unittest

from icehouse import errors
from icehouse.errors import BadDeeds, BadHouse, BadPlan, BadText, IceError, NoSuch

FIVE = (BadHouse, NoSuch, BadDeeds, BadPlan, BadText)


class TestErrors(unittest.TestCase):
    def test_ice_error_is_straight_under_value_error(self):
        self.assertEqual(IceError.__bases__, (ValueError,))

    def test_each_error_is_straight_under_ice_error(self):
        for error in FIVE:
            with self.subTest(error=error.__name__):
                self.assertEqual(error.__bases__, (IceError,))

    def test_none_of_the_five_is_under_another(self):
        for one in FIVE:
            for other in FIVE:
                with self.subTest(one=one.__name__, other=other.__name__):
                    self.assertEqual(issubclass(one, other), one is other)

    def test_each_is_defined_under_its_name_in_its_file(self):
        for error in (*FIVE, IceError):
            with self.subTest(error=error.__name__):
                self.assertEqual(error.__module__, "icehouse.errors")
                self.assertIs(getattr(errors, error.__name__), error)

    def test_each_can_be_raised_with_words(self):
        for error in FIVE:
            with self.subTest(error=error.__name__), self.assertRaises(IceError):
                raise error("words")


if __name__ == "__main__":
    unittest.main()
