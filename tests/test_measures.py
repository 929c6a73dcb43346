import copy
import unittest
from fractions import Fraction

from reference import (
    BROKEN, DIAMOND, MANY, SEVEN, SLIVER, SQUARE, TRIANGLE, UNEVEN, every_shape, is_fraction, is_whole, left_of, moved,
    number, place, shape, spot, told, where)

from snugfit.shapes import doubled, lies, reach

WAYS = [(1, 0), (-1, 0), (0, 1), (0, -1), (1, 1), (-1, 1), (1, -1), (-1, -1), (3, 2), (-5, 7), (6, -4), (-2, -9),
        (MANY, 0), (0, -MANY), (MANY, -MANY - 1), (-3 * MANY, 1)]


class Lies(unittest.TestCase):
    def check(self, value, asked, wanted):
        found = lies(value, asked)
        self.assertTrue(is_whole(found))
        self.assertEqual(found, wanted)

    def test_by_hand(self):
        self.check(SQUARE, spot(1, 1), 1)
        self.check(SQUARE, spot(1, 0), 0)
        self.check(SQUARE, spot(0, 1), 0)
        self.check(SQUARE, spot(2, 2), 0)
        self.check(SQUARE, spot(0, 0), 0)
        self.check(SQUARE, spot(3, 1), -1)
        self.check(SQUARE, spot(1, -1), -1)
        self.check(SQUARE, spot(-1, -1), -1)

    def test_outside_on_the_line_of_a_side(self):
        for asked in [spot(3, 0), spot(-1, 0), spot(2, 5), spot(2, -5), spot(-4, 2), spot(0, 3)]:
            self.check(SQUARE, asked, -1)
        for asked in [spot(8, -3), spot(-4, 6), spot(5, 0), spot(0, Fraction(-1, 2))]:
            self.check(TRIANGLE, asked, -1)

    def test_barely(self):
        little = Fraction(1, MANY)
        self.check(TRIANGLE, spot(2, Fraction(3, 2)), 0)
        self.check(TRIANGLE, spot(2, Fraction(3, 2) - little), 1)
        self.check(TRIANGLE, spot(2, Fraction(3, 2) + little), -1)
        self.check(BROKEN, spot(Fraction(1, 4), Fraction(1, 6)), 0)
        self.check(BROKEN, spot(little, little), 1)
        self.check(BROKEN, spot(-little, Fraction(1, 6)), -1)

    def test_a_grid_round_each(self):
        for value in [SQUARE, TRIANGLE, DIAMOND, SLIVER, SEVEN, BROKEN, UNEVEN]:
            for x in range(-12, 13):
                for y in range(-12, 13):
                    asked = spot(Fraction(x, 3), Fraction(y, 3))
                    self.check(value, asked, where(value, asked))

    def test_corners_sides_and_the_middle(self):
        for value in every_shape():
            places = [place(corner) for corner in value]
            count = len(places)
            middle = (sum(x for x, y in places) / count, sum(y for x, y in places) / count)
            self.check(value, spot(*middle), 1)
            for k, start in enumerate(places):
                end = places[(k + 1) % count]
                third = (start[0] + (end[0] - start[0]) / 3, start[1] + (end[1] - start[1]) / 3)
                past = (end[0] + (end[0] - start[0]) / MANY, end[1] + (end[1] - start[1]) / MANY)
                ahead = (start[0] - (end[0] - start[0]) / MANY, start[1] - (end[1] - start[1]) / MANY)
                inward = (third[0] + (middle[0] - third[0]) / MANY, third[1] + (middle[1] - third[1]) / MANY)
                outward = (third[0] - (middle[0] - third[0]) / MANY, third[1] - (middle[1] - third[1]) / MANY)
                self.check(value, spot(*start), 0)
                self.check(value, spot(*third), 0)
                self.check(value, spot(*past), -1)
                self.check(value, spot(*ahead), -1)
                self.check(value, spot(*inward), 1)
                self.check(value, spot(*outward), -1)


class Doubled(unittest.TestCase):
    def test_by_hand(self):
        self.assertEqual(doubled(SQUARE), (8, 1))
        self.assertEqual(doubled(TRIANGLE), (12, 1))
        self.assertEqual(doubled(DIAMOND), (24, 1))
        self.assertEqual(doubled(BROKEN), (1, 6))
        self.assertEqual(doubled(moved(SQUARE, Fraction(1, 4), Fraction(-9, 5), Fraction(2, 7))), (1, 2))
        self.assertEqual(doubled(moved(TRIANGLE, 1, MANY, -MANY)), (12, 1))
        self.assertEqual(doubled(moved(TRIANGLE, MANY, 0, 0)), (12 * MANY * MANY, 1))

    def test_as_triangles_from_the_first_corner(self):
        for value in every_shape():
            places = [place(corner) for corner in value]
            wanted = sum(left_of(places[0], one, two) for one, two in zip(places[1:], places[2:]))
            found = doubled(value)
            self.assertTrue(is_fraction(found))
            self.assertEqual(found, told(wanted))
            self.assertGreater(number(found), 0)


class Reach(unittest.TestCase):
    def test_by_hand(self):
        self.assertEqual(reach(SQUARE, 1, 0), (2, 1))
        self.assertEqual(reach(SQUARE, -1, 0), (0, 1))
        self.assertEqual(reach(SQUARE, 3, 5), (16, 1))
        self.assertEqual(reach(SQUARE, -3, -5), (0, 1))
        self.assertEqual(reach(DIAMOND, 0, -1), (2, 1))
        self.assertEqual(reach(DIAMOND, -4, 1), (12, 1))
        self.assertEqual(reach(BROKEN, 1, 1), (1, 2))
        self.assertEqual(reach(BROKEN, 2, 4), (4, 3))
        self.assertEqual(reach(BROKEN, 4, 3), (2, 1))
        self.assertEqual(reach(BROKEN, 0, 6), (2, 1))

    def test_below_nought(self):
        third = Fraction(1, 3)
        value = shape((-2 * third, -2), (-third, -2), (-third, -1))
        self.assertEqual(reach(value, 1, 0), (-1, 3))
        self.assertEqual(reach(value, 6, 1), (-3, 1))
        self.assertEqual(reach(value, 0, 1), (-1, 1))
        self.assertEqual(reach(value, -3, 0), (2, 1))

    def test_every_way(self):
        for value in every_shape():
            places = [place(corner) for corner in value]
            for a, b in WAYS:
                found = reach(value, a, b)
                self.assertTrue(is_fraction(found))
                self.assertEqual(found, told(max(a * x + b * y for x, y in places)))


class HandedIn(unittest.TestCase):
    def test_nothing_is_changed(self):
        for value in every_shape():
            kept = copy.deepcopy(value)
            lies(value, spot(0, 0))
            lies(value, spot(MANY, 0))
            doubled(value)
            reach(value, 3, -2)
            self.assertEqual(value, kept)

    def test_asked_again_all_is_told_the_same(self):
        for value in [SQUARE, UNEVEN, SEVEN]:
            self.assertEqual(lies(value, spot(1, 1)), lies(value, spot(1, 1)))
            self.assertEqual(doubled(value), doubled(value))
            self.assertEqual(reach(value, 1, 2), reach(value, 1, 2))
