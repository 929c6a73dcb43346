import unittest

from reference import every_shape, is_fraction, is_shape, shape


class Reference(unittest.TestCase):
    """The tests lean on these, so what they let by and what they catch is tested too."""

    def test_the_shapes_that_are_asked_about_are_shapes(self):
        for value in every_shape():
            self.assertTrue(is_shape(value))

    def test_what_is_no_shape_is_caught(self):
        for value in [
                [], shape((0, 0), (1, 0)), shape((0, 0), (0, 1), (1, 0)), shape((1, 0), (0, 1), (0, 0)),
                shape((0, 0), (1, 0), (2, 0), (0, 2)), shape((0, 0), (2, 0), (0, 2), (0, 0)),
                shape((0, 0), (4, 0), (1, 1), (0, 4)), tuple(shape((0, 0), (1, 0), (0, 1))), [(0, 0), (1, 0), (0, 1)],
                [((0, 2), (0, 1)), ((1, 1), (0, 1)), ((0, 1), (1, 1))]]:
            self.assertFalse(is_shape(value))

    def test_what_is_no_fraction_is_caught(self):
        for value in [(2, 4), (1, -2), (0, 2), (1, 0), [1, 2], (True, 1), (1, 2, 3), 1, (0, -1)]:
            self.assertFalse(is_fraction(value))
