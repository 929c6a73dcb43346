import unittest

from snugfit.errors import FitError, NoNumber, NoShape, NoSize


class Errors(unittest.TestCase):
    def test_fit_error_is_a_value_error(self):
        self.assertEqual(FitError.__bases__, (ValueError,))

    def test_the_others_stand_straight_under_it(self):
        for kind in (NoNumber, NoShape, NoSize):
            self.assertEqual(kind.__bases__, (FitError,))

    def test_each_is_raised_and_caught_by_its_name(self):
        for kind in (FitError, NoNumber, NoShape, NoSize):
            with self.assertRaises(kind):
                raise kind("words")
