import unittest

from fractions import Fraction

from reference import (
    BOWED, BOX, ROUND, SQUARE, TRIANGLE, every_shape, half_turn, holds, hull, is_fraction, is_shape, mixed_shapes,
    moved, shape, slow_pushes, slow_sum, thirty)


class Reference(unittest.TestCase):
    """The tests lean on these, so what they let by and what they catch is tested too."""

    def test_the_shapes_that_are_asked_about_are_shapes(self):
        for value in every_shape() + mixed_shapes() + [ROUND, BOWED]:
            self.assertTrue(is_shape(value))
        for seed in range(3, 9):
            self.assertTrue(is_shape(thirty(seed)))
            self.assertEqual(len(thirty(seed)), 30)

    def test_the_slow_answers_by_hand(self):
        self.assertEqual(hull([(2, 2), (0, 0), (2, 0), (0, 2), (1, 1), (1, 0)]), SQUARE)
        self.assertEqual([hull(places) for places in ([], [(1, 2)], [(3, 3), (1, 1), (2, 2)])],
                         [[], shape((1, 2)), shape((1, 1), (3, 3))])
        self.assertEqual(half_turn(TRIANGLE), shape((-4, 0), (0, -3), (0, 0)))
        self.assertEqual(slow_sum(SQUARE, BOX), shape((1, 1), (8, 1), (8, 5), (1, 5)))
        self.assertEqual(slow_pushes(BOX, SQUARE), shape((1, 1), (4, 1)))
        self.assertEqual(slow_pushes(SQUARE, BOX), [])
        self.assertEqual(slow_pushes(BOX, moved(SQUARE, Fraction(1, 2), 0, 0)), shape((1, 1), (5, 1), (5, 2), (1, 2)))
        self.assertTrue(holds(SQUARE, shape((0, 0), (1, 0), (0, 1))))
        self.assertFalse(holds(SQUARE, TRIANGLE))

    def test_what_is_no_shape_is_caught(self):
        for value in [
                [], shape((0, 0), (1, 0)), shape((0, 0), (0, 1), (1, 0)), shape((1, 0), (0, 1), (0, 0)),
                shape((0, 0), (1, 0), (2, 0), (0, 2)), shape((0, 0), (2, 0), (0, 2), (0, 0)),
                shape((0, 0), (4, 0), (1, 1), (0, 4)), tuple(shape((0, 0), (1, 0), (0, 1))), [(0, 0), (1, 0), (0, 1)],
                [((0, 2), (0, 1)), ((1, 1), (0, 1)), ((0, 1), (1, 1))]]:
            self.assertFalse(is_shape(value))

    def test_what_is_no_fraction_is_caught(self):
        for value in [(2, 4), (1, -2), (0, 2), (1, 0), [1, 2], (True, 1), (1, 2, 3), 1, (0, -1)]:
            self.assertFalse(is_fraction(value))
