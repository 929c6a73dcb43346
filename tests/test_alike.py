import unittest
from fractions import Fraction

from reference import (
    BOX, BROKEN, DIAMOND, FLAT, HEXAGON, MANY, PARABOLA, ROUND, SEVEN, SQUARE, TRIANGLE, UNEVEN, every_shape, half_turn,
    hull, is_fraction, is_spot, mixed_shapes, moved, number, place, shape, spot, told)

from snugfit.fits import alike
from snugfit.sums import pushed, sized

MOVES = [(Fraction(1), 0, 0), (Fraction(1), 5, -7), (Fraction(3), 0, 0), (Fraction(1, 3), Fraction(1, 2), -1),
         (Fraction(7, 5), MANY, Fraction(-1, MANY)), (Fraction(MANY + 1, MANY), 0, 0), (Fraction(1, MANY), -2, MANY),
         (Fraction(10 ** 2000 + 1, 3), Fraction(1, 10 ** 2000), 1)]


class Alike(unittest.TestCase):
    def test_by_hand(self):
        self.assertEqual(alike(SQUARE, SQUARE), ((1, 1), ((0, 1), (0, 1))))
        self.assertEqual(alike(SQUARE, shape((3, 1), (4, 1), (4, 2), (3, 2))), ((2, 1), ((-6, 1), (-2, 1))))
        self.assertEqual(alike(shape((3, 1), (4, 1), (4, 2), (3, 2)), SQUARE), ((1, 2), ((3, 1), (1, 1))))
        self.assertEqual(alike(BROKEN, shape((1, 1), (4, 1), (1, 3))), ((1, 6), ((-1, 6), (-1, 6))))

    def test_pushed_and_sized(self):
        for value in every_shape() + mixed_shapes() + [ROUND]:
            for factor, right, up in MOVES:
                grown = moved(value, factor, right, up)
                self.assertEqual(alike(grown, value), (told(factor), spot(right, up)))
                self.assertEqual(alike(value, grown), (told(1 / factor), spot(-right / factor, -up / factor)))

    def test_the_form_and_what_it_tells(self):
        for value in mixed_shapes():
            other = moved(value, Fraction(4, 9), 3, Fraction(-1, 4))
            found = alike(value, other)
            self.assertIs(type(found), tuple)
            self.assertEqual(len(found), 2)
            self.assertTrue(is_fraction(found[0]) and number(found[0]) > 0)
            self.assertTrue(is_spot(found[1]))
            self.assertEqual(pushed(sized(other, found[0]), found[1]), value)

    def test_as_many_corners_and_not_alike(self):
        for one, other in [
                (SQUARE, BOX), (BOX, SQUARE), (SQUARE, DIAMOND), (DIAMOND, FLAT), (UNEVEN, SQUARE),
                (TRIANGLE, shape((0, 0), (3, 0), (0, 4))), (TRIANGLE, shape((0, 0), (4, 0), (0, 4))),
                (TRIANGLE, shape((0, 0), (4, 0), (1, 3))), (PARABOLA, ROUND), (ROUND, PARABOLA),
                (shape((0, 0), (2, 0), (2, 1), (0, 1)), shape((0, 0), (1, 0), (1, 2), (0, 2)))]:
            self.assertEqual(len(one), len(other))
            self.assertIsNone(alike(one, other))
            self.assertIsNone(alike(moved(one, Fraction(7, 3), MANY, 0), other))

    def test_other_counts_of_corners(self):
        self.assertIsNone(alike(SQUARE, TRIANGLE))
        self.assertIsNone(alike(TRIANGLE, SQUARE))
        self.assertIsNone(alike(shape((0, 0), (2, 0), (2, 1), (1, 2), (0, 2)), SQUARE))
        self.assertIsNone(alike(SQUARE, shape((0, 0), (2, 0), (2, 1), (1, 2), (0, 2))))
        self.assertIsNone(alike(PARABOLA, PARABOLA[:-1]))

    def test_one_corner_that_barely_differs(self):
        for value in [SQUARE, SEVEN, UNEVEN, ROUND]:
            for k in range(len(value)):
                for right, up in [(Fraction(1, MANY), 0), (0, Fraction(-1, MANY))]:
                    other = list(value)
                    other[k] = spot(number(value[k][0]) + right, number(value[k][1]) + up)
                    other = hull([place(corner) for corner in other])
                    self.assertEqual(len(other), len(value))
                    self.assertIsNone(alike(value, other))
                    self.assertIsNone(alike(other, value))

    def test_half_turns_that_are_the_same_but_for_a_push(self):
        for value in [SQUARE, DIAMOND, BOX, HEXAGON, moved(HEXAGON, Fraction(1, 3), MANY, Fraction(-2, 7))]:
            found = alike(value, half_turn(value))
            self.assertIsNotNone(found)
            self.assertEqual(found[0], (1, 1))
            self.assertEqual(moved(half_turn(value), 1, number(found[1][0]), number(found[1][1])), value)
        self.assertEqual(alike(BOX, half_turn(BOX)), ((1, 1), ((7, 1), (4, 1))))

    def test_half_turns_that_are_not(self):
        for value in [TRIANGLE, UNEVEN, SEVEN, PARABOLA, ROUND, BROKEN]:
            self.assertIsNone(alike(value, half_turn(value)))

    def test_each_only_with_itself(self):
        some = [TRIANGLE, SQUARE, DIAMOND, SEVEN, UNEVEN, BOX, HEXAGON, FLAT, ROUND, PARABOLA]
        for k, one in enumerate(some):
            for m, other in enumerate(some):
                found = alike(one, moved(other, Fraction(1, 5), 1, 2))
                self.assertEqual(found, ((5, 1), ((-5, 1), (-10, 1))) if k == m else None)
