import unittest
from fractions import Fraction
from math import gcd

from reference import MANY, is_fraction, is_whole, number, told

from snugfit.errors import FitError, NoNumber, NoShape, NoSize
from snugfit.ratios import below, divisor, minus, over, plus, ratio, times

WHOLE = [0, 1, -1, 2, -2, 3, 4, -6, 9, 10, -12, 35, 97,
         MANY, -MANY, MANY + 1, 6 * MANY, -35 * MANY, 2 ** 300, -(6 ** 120)]
BOTTOMS = [1, 2, 3, 4, 6, 7, 12, MANY, MANY + 1, 2 ** 300, 6 ** 120]
TOPS = [0, 1, -1, 2, -3, 5, 6, -12, 25, MANY, -MANY, MANY + 2, -(6 ** 120)]
FRACTIONS = sorted({Fraction(top, bottom) for top in TOPS for bottom in BOTTOMS})
HUGE = 10 ** 6000 + 1


class Divisor(unittest.TestCase):
    def test_by_hand(self):
        for one, other, wanted in [
                (12, 18, 6), (18, 12, 6), (-12, 18, 6), (12, -18, 6), (-12, -18, 6), (7, 5, 1), (5, 5, 5), (-5, -5, 5),
                (1, 9, 1), (9, 3, 3), (0, 7, 7), (7, 0, 7), (0, -7, 7), (-7, 0, 7), (0, 0, 0), (0, 1, 1), (-1, 0, 1)]:
            self.assertEqual(divisor(one, other), wanted)

    def test_of_many_figures(self):
        self.assertEqual(divisor(6 * MANY, -10 * MANY), 2 * MANY)
        self.assertEqual(divisor(MANY, MANY + 1), 1)
        self.assertEqual(divisor(0, -MANY), MANY)
        self.assertEqual(divisor(15 * HUGE, 21 * HUGE), 3 * HUGE)

    def test_every_pair(self):
        for one in WHOLE:
            for other in WHOLE:
                found = divisor(one, other)
                self.assertEqual(found, gcd(one, other))
                self.assertTrue(is_whole(found))


class Ratio(unittest.TestCase):
    def test_by_hand(self):
        for top, bottom, wanted in [
                (6, 4, (3, 2)), (-6, 4, (-3, 2)), (6, -4, (-3, 2)), (-6, -4, (3, 2)), (0, 5, (0, 1)), (0, -5, (0, 1)),
                (5, 1, (5, 1)), (5, -1, (-5, 1)), (-8, -4, (2, 1)), (4, 6, (2, 3)), (1, -3, (-1, 3)), (3, 3, (1, 1))]:
            found = ratio(top, bottom)
            self.assertEqual(found, wanted)
            self.assertTrue(is_fraction(found))

    def test_every_pair(self):
        for top in WHOLE:
            for bottom in WHOLE:
                if bottom != 0:
                    found = ratio(top, bottom)
                    self.assertTrue(is_fraction(found))
                    self.assertEqual(number(found), Fraction(top, bottom))

    def test_of_many_figures(self):
        self.assertEqual(ratio(4 * HUGE, -6 * HUGE), (-2, 3))
        self.assertEqual(ratio(-HUGE, HUGE + 1), (-HUGE, HUGE + 1))

    def test_a_bottom_of_nought_is_refused(self):
        for top in WHOLE + [HUGE, -HUGE]:
            for kind in (NoNumber, FitError, ValueError):
                with self.assertRaises(kind) as caught:
                    ratio(top, 0)
                self.assertIsInstance(caught.exception, NoNumber)
                self.assertNotIsInstance(caught.exception, (NoShape, NoSize))


class Reckoning(unittest.TestCase):
    def test_plus_by_hand(self):
        self.assertEqual(plus((1, 2), (1, 3)), (5, 6))
        self.assertEqual(plus((1, 6), (1, 3)), (1, 2))
        self.assertEqual(plus((1, 2), (-1, 2)), (0, 1))
        self.assertEqual(plus((-7, 4), (3, 4)), (-1, 1))
        self.assertEqual(plus((0, 1), (0, 1)), (0, 1))

    def test_minus_by_hand(self):
        self.assertEqual(minus((1, 2), (1, 3)), (1, 6))
        self.assertEqual(minus((1, 3), (1, 2)), (-1, 6))
        self.assertEqual(minus((5, 6), (1, 3)), (1, 2))
        self.assertEqual(minus((5, 6), (5, 6)), (0, 1))
        self.assertEqual(minus((0, 1), (-2, 3)), (2, 3))

    def test_times_by_hand(self):
        self.assertEqual(times((2, 3), (3, 4)), (1, 2))
        self.assertEqual(times((-2, 3), (3, 2)), (-1, 1))
        self.assertEqual(times((-2, 3), (-6, 5)), (4, 5))
        self.assertEqual(times((0, 1), (-6, 5)), (0, 1))

    def test_over_by_hand(self):
        self.assertEqual(over((2, 3), (4, 3)), (1, 2))
        self.assertEqual(over((1, 2), (-3, 4)), (-2, 3))
        self.assertEqual(over((-1, 2), (-3, 4)), (2, 3))
        self.assertEqual(over((-5, 2), (5, 1)), (-1, 2))
        self.assertEqual(over((0, 1), (-3, 4)), (0, 1))

    def test_every_pair(self):
        for one in FRACTIONS:
            for other in FRACTIONS:
                self.check(plus(told(one), told(other)), one + other)
                self.check(minus(told(one), told(other)), one - other)
                self.check(times(told(one), told(other)), one * other)
                if other != 0:
                    self.check(over(told(one), told(other)), one / other)

    def check(self, found, wanted):
        self.assertTrue(is_fraction(found))
        self.assertEqual(found, told(wanted))

    def test_a_quotient_by_nought_is_refused(self):
        for one in [told(value) for value in FRACTIONS] + [(HUGE, 1), (-1, HUGE)]:
            for kind in (NoNumber, FitError, ValueError):
                with self.assertRaises(kind) as caught:
                    over(one, (0, 1))
                self.assertIsInstance(caught.exception, NoNumber)
                self.assertNotIsInstance(caught.exception, (NoShape, NoSize))


class Below(unittest.TestCase):
    def test_by_hand(self):
        self.assertIs(below((1, 3), (1, 2)), True)
        self.assertIs(below((1, 2), (1, 3)), False)
        self.assertIs(below((-1, 2), (-1, 3)), True)
        self.assertIs(below((-1, 3), (-1, 2)), False)
        self.assertIs(below((-1, 3), (0, 1)), True)
        self.assertIs(below((0, 1), (-1, 3)), False)
        self.assertIs(below((0, 1), (0, 1)), False)
        self.assertIs(below((2, 3), (2, 3)), False)

    def test_ones_that_barely_differ(self):
        less = (MANY - 1, MANY)
        more = (MANY, MANY + 1)
        self.assertIs(below(less, more), True)
        self.assertIs(below(more, less), False)
        self.assertIs(below(more, more), False)
        self.assertIs(below((MANY, 1), (MANY + 1, 1)), True)
        self.assertIs(below((-MANY, MANY + 1), (1 - MANY, MANY)), True)

    def test_every_pair(self):
        for one in FRACTIONS:
            for other in FRACTIONS:
                self.assertIs(below(told(one), told(other)), one < other)
