import unittest
from fractions import Fraction

from reference import (
    BROKEN, DIAMOND, MANY, SEVEN, SQUARE, TRIANGLE, UNEVEN, every_shape, half_turn, is_shape, moved, number, shape,
    spot, told)

from snugfit.errors import FitError, NoNumber, NoShape, NoSize
from snugfit.sums import pushed, sized, turned

PUSHES = [(0, 0), (1, 0), (0, -1), (-3, 5), (Fraction(1, 2), Fraction(-2, 3)), (MANY, -MANY), (Fraction(1, MANY), 0),
          (Fraction(-MANY, 7), Fraction(MANY + 1, MANY)), (-10 ** 5000, Fraction(1, 10 ** 5000))]
FACTORS = [Fraction(1), Fraction(2), Fraction(1, 2), Fraction(7, 3), Fraction(6, 35), Fraction(MANY), Fraction(1, MANY),
           Fraction(MANY + 1, MANY), Fraction(10 ** 5000), Fraction(3, 10 ** 5000 + 1)]


class Pushed(unittest.TestCase):
    def test_by_hand(self):
        self.assertEqual(pushed(SQUARE, ((1, 1), (-2, 1))), shape((1, -2), (3, -2), (3, 0), (1, 0)))
        self.assertEqual(
            pushed(BROKEN, ((1, 2), (-1, 3))),
            [((1, 2), (-1, 3)), ((1, 1), (-1, 3)), ((1, 2), (0, 1))])
        self.assertEqual(pushed(TRIANGLE, ((-5, 1), (0, 1))), shape((-5, 0), (-1, 0), (-5, 3)))

    def test_each_corner_moves_alike(self):
        for value in every_shape():
            for right, up in PUSHES:
                found = pushed(value, spot(right, up))
                self.assertEqual(found, moved(value, 1, right, up))

    def test_it_is_a_shape(self):
        for value in every_shape()[:16]:
            for right, up in PUSHES:
                self.assertTrue(is_shape(pushed(value, spot(right, up))))

    def test_there_and_back(self):
        for value in every_shape():
            for right, up in PUSHES:
                self.assertEqual(pushed(pushed(value, spot(right, up)), spot(-right, -up)), value)


class Sized(unittest.TestCase):
    def test_by_hand(self):
        self.assertEqual(sized(SQUARE, (3, 2)), shape((0, 0), (3, 0), (3, 3), (0, 3)))
        self.assertEqual(sized(BROKEN, (6, 1)), shape((0, 0), (3, 0), (0, 2)))
        self.assertEqual(
            sized(DIAMOND, (1, 6)),
            [((-1, 2), (0, 1)), ((0, 1), (-1, 3)), ((1, 2), (0, 1)), ((0, 1), (1, 3))])
        self.assertEqual(sized(shape((5, -4), (6, -4), (6, -3)), (2, 1)), shape((10, -8), (12, -8), (12, -6)))

    def test_each_corner_times_the_factor(self):
        for value in every_shape():
            for factor in FACTORS:
                self.assertEqual(sized(value, told(factor)), moved(value, factor, 0, 0))

    def test_it_is_a_shape(self):
        for value in every_shape()[:16]:
            for factor in FACTORS:
                self.assertTrue(is_shape(sized(value, told(factor))))

    def test_there_and_back(self):
        for value in every_shape():
            for factor in FACTORS:
                self.assertEqual(sized(sized(value, told(factor)), told(1 / factor)), value)

    def test_factors_not_above_nought_are_refused(self):
        for factor in [(0, 1), (-1, 1), (-1, 2), (-7, 3), (-MANY, 1), (-1, MANY), (-10 ** 5000, 1)]:
            for value in [SQUARE, UNEVEN, moved(SEVEN, 1, MANY, 0)]:
                kept = list(value)
                for kind in (NoSize, FitError, ValueError):
                    with self.assertRaises(kind) as caught:
                        sized(value, factor)
                    self.assertIsInstance(caught.exception, NoSize)
                    self.assertNotIsInstance(caught.exception, (NoNumber, NoShape))
                self.assertEqual(value, kept)


class Turned(unittest.TestCase):
    def test_by_hand(self):
        self.assertEqual(turned(TRIANGLE), shape((-4, 0), (0, -3), (0, 0)))
        self.assertEqual(turned(SQUARE), shape((-2, -2), (0, -2), (0, 0), (-2, 0)))
        self.assertEqual(turned(DIAMOND), DIAMOND)
        self.assertEqual(turned(BROKEN), [((-1, 2), (0, 1)), ((0, 1), (-1, 3)), ((0, 1), (0, 1))])

    def test_a_right_side_that_stands_upright(self):
        """Of the two corners with the greatest x, the upper one comes to lie ahead of all."""
        self.assertEqual(turned(shape((0, 0), (1, -5), (1, 7))), shape((-1, -7), (0, 0), (-1, 5)))
        self.assertEqual(turned(shape((0, 0), (1, 1), (1, 7))), shape((-1, -7), (0, 0), (-1, -1)))

    def test_each_corner_with_the_other_sign(self):
        for value in every_shape():
            found = turned(value)
            self.assertTrue(is_shape(found))
            self.assertEqual(found, half_turn(value))

    def test_twice(self):
        for value in every_shape():
            self.assertEqual(turned(turned(value)), value)

    def test_with_pushes_and_factors(self):
        for value in every_shape():
            there = turned(sized(pushed(value, ((5, 3), (-MANY, 1))), (7, 2)))
            back = turned(pushed(sized(value, (7, 2)), ((35, 6), (-7 * MANY, 2))))
            self.assertEqual(there, back)
            self.assertEqual(number(there[0][0]), -max(number(x) * 7 / 2 for x, y in value) - Fraction(35, 6))
