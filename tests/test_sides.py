import copy
import unittest
from fractions import Fraction
from math import gcd

from reference import BROKEN, DIAMOND, MANY, SQUARE, TRIANGLE, every_shape, is_whole, moved, place, shape

from snugfit.shapes import sides_of


class Sides(unittest.TestCase):
    def test_whole_corners_by_hand(self):
        self.assertEqual(sides_of(SQUARE), [(0, 1, 0), (-1, 0, -2), (0, -1, -2), (1, 0, 0)])
        self.assertEqual(sides_of(TRIANGLE), [(0, 1, 0), (-3, -4, -12), (1, 0, 0)])
        self.assertEqual(sides_of(DIAMOND), [(2, 3, -6), (-2, 3, -6), (-2, -3, -6), (2, -3, -6)])

    def test_broken_corners_by_hand(self):
        self.assertEqual(sides_of(BROKEN), [(0, 1, 0), (-2, -3, -1), (1, 0, 0)])
        half = Fraction(1, 2)
        tilted = shape((-half, half), (half, -half), (half, half))
        self.assertEqual(sides_of(tilted), [(1, 1, 0), (-2, 0, -1), (0, -2, -1)])

    def test_far_from_nought(self):
        self.assertEqual(
            sides_of(moved(SQUARE, 1, MANY, -MANY)),
            [(0, 1, -MANY), (-1, 0, -MANY - 2), (0, -1, MANY - 2), (1, 0, MANY)])
        self.assertEqual(
            sides_of(moved(SQUARE, 1, Fraction(1, MANY), 0)),
            [(0, 1, 0), (-MANY, 0, -2 * MANY - 1), (0, -1, -2), (MANY, 0, 1)])

    def test_the_form_of_a_side(self):
        for value in every_shape():
            found = sides_of(value)
            self.assertIs(type(found), list)
            self.assertEqual(len(found), len(value))
            for side in found:
                self.assertIs(type(side), tuple)
                self.assertEqual(len(side), 3)
                self.assertTrue(all(is_whole(part) for part in side))
                self.assertEqual(gcd(*side), 1)

    def test_least_on_the_side_alone_and_in_the_corners_order(self):
        for value in every_shape():
            places = [place(corner) for corner in value]
            for k, (a, b, c) in enumerate(sides_of(value)):
                ends = (k, (k + 1) % len(value))
                for m, (x, y) in enumerate(places):
                    if m in ends:
                        self.assertEqual(a * x + b * y, c)
                    else:
                        self.assertGreater(a * x + b * y, c)

    def test_what_is_handed_in_stays_and_what_is_told_is_new(self):
        value = list(SQUARE)
        kept = copy.deepcopy(value)
        first = sides_of(value)
        second = sides_of(value)
        self.assertEqual(value, kept)
        self.assertIsNot(first, second)
        wanted = list(second)
        first.clear()
        self.assertEqual(second, wanted)
        self.assertEqual(sides_of(value), wanted)
        value.reverse()
        self.assertEqual(second, wanted)
