"""What is promised over the whole program, for any two shapes and any three."""

import unittest
from fractions import Fraction

from reference import (
    BOWED, BROKEN, DIAMOND, FLAT, HEXAGON, MANY, PARABOLA, ROUND, SEVEN, SLIVER, SQUARE, TRIANGLE, every_shape, hull,
    mixed_shapes, moved, number, place, spot, strewn, thirty, told)

from snugfit.fits import alike, fit
from snugfit.pushes import pushes
from snugfit.shapes import doubled, lies
from snugfit.sums import sized, summed, turned

SHAPES = mixed_shapes() + [ROUND, PARABOLA, BOWED, thirty(6, -MANY, 5), strewn(9, 40, 500, 3)]
LITTLE = Fraction(MANY + 1, MANY)


def factor_of(one, other):
    return number(fit(one, other)[0])


def lies_in_region(region, asked):
    """By the pushes' own words, for regions that are no shapes too."""
    if len(region) > 2:
        return lies(region, asked) >= 0
    if len(region) == 2:
        (x, y), (u, v), (s, t) = [(number(x), number(y)) for x, y in region + [asked]]
        between = min(x, u) <= s <= max(x, u) and min(y, v) <= t <= max(y, v)
        return between and (u - x) * (t - y) == (v - y) * (s - x)
    return asked in region


class Whole(unittest.TestCase):
    def test_by_no_greater_factor_is_there_a_push(self):
        for one in SHAPES:
            for other in SHAPES:
                factor, push, places, weights = fit(one, other)
                region = pushes(one, sized(other, factor))
                self.assertIn(len(region), (1, 2))
                self.assertTrue(lies_in_region(region, push))
                self.assertEqual(pushes(one, sized(other, told(number(factor) * LITTLE))), [])
                less = pushes(one, sized(other, told(number(factor) / LITTLE)))
                self.assertGreater(len(less), 2)
                self.assertGreater(number(doubled(less)), 0)

    def test_two_there_and_back(self):
        for one in SHAPES:
            for other in SHAPES + [moved(one, Fraction(3, 7), 5, MANY)]:
                product = factor_of(one, other) * factor_of(other, one)
                self.assertLessEqual(product, 1)
                self.assertEqual(product == 1, alike(one, other) is not None)

    def test_alike_ones_fit_by_what_alike_tells(self):
        for one in SHAPES:
            other = moved(one, Fraction(11, 6), Fraction(1, 3), -MANY)
            self.assertEqual(alike(one, other), fit(one, other)[:2])
            self.assertEqual(factor_of(one, other) * factor_of(other, one), 1)

    def test_barely_not_alike(self):
        for one in [SQUARE, SEVEN, ROUND, HEXAGON]:
            for k in range(len(one)):
                other = list(one)
                x, y = number(one[k][0]), number(one[k][1])
                other[k] = spot(x + Fraction(1, MANY), y - Fraction(1, MANY))
                other = hull([place(corner) for corner in other])
                self.assertEqual(len(other), len(one))
                self.assertIsNone(alike(one, other))
                self.assertLess(factor_of(one, other) * factor_of(other, one), 1)

    def test_three(self):
        factors = [[factor_of(one, other) for other in SHAPES] for one in SHAPES]
        count = range(len(SHAPES))
        for one in count:
            for two in count:
                for three in count:
                    self.assertLessEqual(factors[one][two] * factors[two][three], factors[one][three])

    def test_three_in_a_row_of_alike_ones(self):
        for value in [TRIANGLE, SEVEN, ROUND]:
            two = moved(value, Fraction(2, 9), 1, MANY)
            three = moved(value, Fraction(5, 3), Fraction(1, MANY), 0)
            self.assertEqual(factor_of(value, two) * factor_of(two, three), factor_of(value, three))

    def test_half_turns(self):
        for value in SHAPES + every_shape():
            factor = factor_of(value, turned(value))
            self.assertGreaterEqual(factor, Fraction(1, 2))
            self.assertLessEqual(factor, 1)
            self.assertEqual(factor == Fraction(1, 2), len(value) == 3)
            self.assertEqual(factor == 1, alike(value, turned(value)) is not None)

    def test_half_turns_by_hand(self):
        for value in [TRIANGLE, SLIVER, BROKEN, moved(SLIVER, Fraction(1, MANY), 3, MANY)]:
            self.assertEqual(fit(value, turned(value))[0], (1, 2))
        for value in [SQUARE, DIAMOND, HEXAGON, FLAT]:
            self.assertEqual(fit(value, turned(value))[0], (1, 1))

    def test_added_and_taken_away_again(self):
        for one in SHAPES:
            for other in SHAPES:
                self.assertEqual(pushes(summed(one, other), other), one)

    def test_three_places_leave_no_other_push(self):
        for one in SHAPES:
            for other in (TRIANGLE, SEVEN, HEXAGON, ROUND):
                factor, push, places, weights = fit(one, other)
                if len(places) == 3:
                    self.assertEqual(pushes(one, sized(other, factor)), [push])
