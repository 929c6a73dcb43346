import time
import unittest
from fractions import Fraction
from itertools import combinations

from reference import (
    BOWED, BOX, BROKEN, DIAMOND, FLAT, HEXAGON, MANY, PARABOLA, ROUND, SEVEN, SLIVER, SQUARE, STEEP, TRIANGLE, UNEVEN,
    edges, every_shape, half_turn, holds, is_fraction, is_shape, is_spot, is_whole, least_of, mixed_shapes, moved,
    number, shape, strewn, thirty, told)

from snugfit.fits import fit
from snugfit.pushes import pushes
from snugfit.shapes import sides_of
from snugfit.sums import pushed, sized


def slow_factor(one, other):
    """The least that two bounds or three which leave no way out allow."""
    bounds = [(a, b, c, least_of(other, a, b)) for a, b, c in edges(one)]
    found = []
    for first, second in combinations(bounds, 2):
        if first[0] * second[1] == first[1] * second[0] and first[0] * second[0] + first[1] * second[1] < 0:
            found.append([(abs(second[0]) + abs(second[1]), first), (abs(first[0]) + abs(first[1]), second)])
    for trio in combinations(bounds, 3):
        weights = [trio[k - 2][0] * trio[k - 1][1] - trio[k - 2][1] * trio[k - 1][0] for k in range(3)]
        if min(weights) > 0:
            found.append(list(zip(weights, trio)))
    return min(sum(w * part[2] for w, part in parts) / sum(w * part[3] for w, part in parts) for parts in found)


class Fit(unittest.TestCase):
    def check(self, one, other):
        answer = fit(one, other)
        self.check_form(one, answer)
        factor, push, places, weights = answer
        self.assertTrue(holds(one, pushed(sized(other, factor), push)))
        sides = [sides_of(one)[at] for at in places]
        self.assertEqual(sum(weight * a for weight, (a, b, c) in zip(weights, sides)), 0)
        self.assertEqual(sum(weight * b for weight, (a, b, c) in zip(weights, sides)), 0)
        least = sum(weight * least_of(other, a, b) for weight, (a, b, c) in zip(weights, sides))
        self.assertEqual(sum(weight * c for weight, (a, b, c) in zip(weights, sides)), number(factor) * least)
        self.assertLess(least, 0)
        return answer

    def check_form(self, one, answer):
        self.assertIs(type(answer), tuple)
        self.assertEqual(len(answer), 4)
        factor, push, places, weights = answer
        self.assertTrue(is_fraction(factor))
        self.assertGreater(factor[0], 0)
        self.assertTrue(is_spot(push))
        self.assertIs(type(places), list)
        self.assertIs(type(weights), list)
        self.assertIn(len(places), (2, 3))
        self.assertEqual(len(places), len(weights))
        self.assertEqual(places, sorted(set(places)))
        self.assertTrue(all(is_whole(value) for value in places + weights))
        self.assertTrue(0 <= places[0] and places[-1] < len(one))
        self.assertGreaterEqual(min(weights), 1)

    def check_factor(self, one, other, wanted):
        answer = self.check(one, other)
        self.assertEqual(answer[0], told(wanted))
        return answer

    def test_two_sides_that_face_one_another(self):
        long = shape((0, 0), (9, 0), (9, 2), (0, 2))
        answer = self.check_factor(long, moved(SQUARE, Fraction(1, 2), 0, 0), 2)
        self.assertEqual(answer[2:], ([0, 2], [1, 1]))
        tall = shape((0, 0), (2, 0), (2, 9), (0, 9))
        answer = self.check_factor(tall, moved(SQUARE, Fraction(1, 2), 7, -3), 2)
        self.assertEqual(answer[2:], ([1, 3], [1, 1]))
        aslant = shape((0, 0), (1, -1), (9, 7), (8, 8))
        answer = self.check_factor(aslant, DIAMOND, Fraction(1, 3))
        self.assertEqual(answer[2:], ([1, 3], [1, 1]))
        self.assertEqual(self.check(BOX, FLAT)[0], (5, 18))
        self.assertEqual(self.check(BOX, FLAT)[2], [1, 3])

    def test_facing_sides_in_different_terms(self):
        """The sides are (0, 1, 0) and (0, -3, -1): their weights differ."""
        value = shape((0, 0), (5, 0), (5, Fraction(1, 3)), (0, Fraction(1, 3)))
        answer = self.check_factor(value, SQUARE, Fraction(1, 6))
        self.assertEqual(answer[2], [0, 2])
        self.assertEqual(answer[3][0], 3 * answer[3][1])

    def test_three_sides(self):
        answer = self.check_factor(TRIANGLE, half_turn(TRIANGLE), Fraction(1, 2))
        self.assertEqual(answer[1], ((2, 1), (3, 2)))
        self.assertEqual(answer[2], [0, 1, 2])
        answer = self.check_factor(TRIANGLE, moved(SQUARE, Fraction(1, 2), 0, 0), Fraction(12, 7))
        self.assertEqual(answer[2], [0, 1, 2])
        self.assertEqual(self.check_factor(TRIANGLE, TRIANGLE, 1)[1], ((0, 1), (0, 1)))
        self.check_factor(shape((0, 0), (6, 0), (0, 6)), SQUARE, Fraction(3, 2))
        cut = shape((0, 0), (10, 0), (10, 1), (1, 10), (0, 10))
        answer = self.check_factor(cut, SQUARE, Fraction(11, 4))
        self.assertEqual(answer[2], [0, 2, 4])

    def test_boxes(self):
        for wide in range(1, 5):
            for high in range(1, 5):
                other = shape((-1, 2), (wide - 1, 2), (wide - 1, high + 2), (-1, high + 2))
                self.check_factor(BOX, other, min(Fraction(5, wide), Fraction(2, high)))
                self.check_factor(SQUARE, other, min(Fraction(2, wide), Fraction(2, high)))

    def test_more_than_three_sides_touched_at_once(self):
        self.check_factor(SQUARE, moved(SQUARE, 5, 9, 9), Fraction(1, 5))
        self.check_factor(SQUARE, DIAMOND, Fraction(1, 3))
        self.check_factor(DIAMOND, SQUARE, Fraction(6, 5))
        self.check_factor(HEXAGON, moved(HEXAGON, Fraction(2, 7), MANY, 3), Fraction(7, 2))
        self.check_factor(ROUND, moved(ROUND, Fraction(3, 4), 0, -MANY), Fraction(4, 3))
        self.check_factor(PARABOLA, PARABOLA, 1)
        self.check_factor(FLAT, moved(FLAT, 9, 0, 0), Fraction(1, 9))

    def test_every_shape_and_itself_pushed_and_sized(self):
        for value in every_shape() + mixed_shapes():
            answer = self.check_factor(value, moved(value, Fraction(5, 3), Fraction(-1, 2), MANY), Fraction(3, 5))
            self.assertEqual(answer[1], ((3, 10), told(Fraction(-3 * MANY, 5))))

    def test_in_twos(self):
        counts = {2: 0, 3: 0}
        for one in mixed_shapes():
            for other in mixed_shapes():
                answer = self.check_factor(one, other, slow_factor(one, other))
                counts[len(answer[2])] += 1
        self.assertGreater(counts[2], 20)
        self.assertGreater(counts[3], 20)

    def test_many_small_ones(self):
        for seed in range(1, 160):
            one = strewn(seed, 5 + seed % 9, 4 + seed % 23, 1 + seed % 3)
            other = strewn(seed + 1000, 4 + seed % 7, 3 + seed % 11, 1 + seed % 2)
            if len(one) > 2 and len(other) > 2:
                self.check_factor(one, other, slow_factor(one, other))

    def test_far_from_nought_and_broken(self):
        for one in every_shape():
            for other in (moved(BROKEN, Fraction(1, 7), MANY, -MANY), moved(STEEP, MANY, Fraction(1, MANY), 0), SLIVER):
                self.check(one, other)
                self.check(other, one)

    def test_a_push_of_either_keeps_the_factor(self):
        for one, other in [(SEVEN, UNEVEN), (UNEVEN, SEVEN), (BOX, STEEP), (TRIANGLE, HEXAGON)]:
            factor = fit(one, other)[0]
            self.check_factor(moved(one, 1, MANY, Fraction(1, 3)), other, number(factor))
            self.check_factor(one, moved(other, 1, -MANY, Fraction(1, MANY)), number(factor))
            self.check_factor(one, moved(other, Fraction(MANY, 3), 1, 1), number(factor) * 3 / MANY)

    def test_thirty_corners(self):
        some = [ROUND, PARABOLA, BOWED, thirty(8, MANY, 3), thirty(7, 0, MANY), TRIANGLE, SLIVER, FLAT, STEEP]
        for one in some:
            for other in some:
                self.check(one, other)

    def test_thirty_corners_with_many_figures_come_within_seconds(self):
        one = [(told(number(x) + Fraction(1, MANY * (k + 7))), told(number(y) - Fraction(1, MANY ** 2 - k)))
               for k, (x, y) in enumerate(PARABOLA)]
        other = [(told(number(x) - Fraction(k, MANY * 7 + k)), told(number(y) + Fraction(1, 3 * MANY ** 2 + k)))
                 for k, (x, y) in enumerate(half_turn(ROUND))]
        self.assertEqual((len(one), is_shape(one), len(other), is_shape(other)), (30, True, 30, True))
        start = time.monotonic()
        fit(one, other)
        fit(other, one)
        pushes(one, sized(other, (1, 9)))
        self.assertLess(time.monotonic() - start, 10)
        self.check(one, other)
        self.check(other, one)

    def test_numbers_of_thousands_of_figures(self):
        huge = 10 ** 3000 + 7
        one = moved(SEVEN, huge, huge ** 2, Fraction(1, huge))
        other = moved(UNEVEN, Fraction(3, huge), -huge, Fraction(5, huge + 1))
        self.check_factor(one, other, number(fit(SEVEN, UNEVEN)[0]) * huge * huge / 3)
