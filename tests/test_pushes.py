import unittest
from fractions import Fraction
from itertools import combinations

from reference import (
    BOWED, BOX, DIAMOND, FLAT, HEXAGON, MANY, PARABOLA, ROUND, SEVEN, SLIVER, SQUARE, STEEP, TRIANGLE, UNEVEN,
    every_shape, half_turn, holds, hull, is_shape, is_spot, mixed_shapes, moved, place, shape, slow_pushes,
    slow_sum, spot, strewn, thirty)

from snugfit.pushes import pushes
from snugfit.shapes import lies
from snugfit.sums import pushed, sized, summed

LITTLE = Fraction(1, MANY)


class Pushes(unittest.TestCase):
    def check(self, one, other):
        found = pushes(one, other)
        self.check_form(found)
        self.assertEqual(found, slow_pushes(one, other))
        return found

    def check_form(self, found):
        self.assertIs(type(found), list)
        if len(found) > 2:
            self.assertTrue(is_shape(found))
        self.assertTrue(all(is_spot(value) for value in found))
        if len(found) == 2:
            self.assertLess(place(found[0]), place(found[1]))

    def check_inside(self, one, other, found):
        middle = [sum(place(value)[way] for value in found) / len(found) for way in (0, 1)]
        for push in found + [spot(*middle)]:
            self.assertTrue(holds(one, pushed(other, push)))

    def check_outside(self, one, other, found):
        """Just beyond each corner, and beside each side."""
        places = [place(value) for value in found]
        middle = [sum(spot[way] for spot in places) / len(places) for way in (0, 1)]
        outer = []
        for start, end in zip(places, places[1:] + places[:1]):
            outer += [(start[0] + (start[0] - middle[0]) * LITTLE, start[1] + (start[1] - middle[1]) * LITTLE)]
            across = ((end[1] - start[1]) * LITTLE, (start[0] - end[0]) * LITTLE)
            outer += [((start[0] + end[0]) / 2 + across[0], (start[1] + end[1]) / 2 + across[1])]
        if len(places) == 1:
            outer = [(x * LITTLE + places[0][0], y * LITTLE + places[0][1])
                     for x in (-1, 0, 1) for y in (-1, 0, 1) if (x, y) != (0, 0)]
        for x, y in outer:
            self.assertFalse(holds(one, pushed(other, spot(x, y))))

    def test_empty(self):
        self.assertEqual(pushes(SQUARE, moved(SQUARE, Fraction(3, 2), 5, 5)), [])
        self.assertEqual(pushes(SQUARE, moved(SQUARE, 1 + LITTLE, 0, 0)), [])
        self.assertEqual(pushes(TRIANGLE, half_turn(TRIANGLE)), [])
        self.assertEqual(pushes(UNEVEN, PARABOLA), [])

    def test_too_long_in_one_direction_alone(self):
        self.assertEqual(pushes(SQUARE, moved(FLAT, Fraction(1, 5), 0, 0)), [])
        self.assertEqual(pushes(SQUARE, moved(STEEP, Fraction(1, 39), 0, 0)), [])
        self.assertEqual(pushes(SQUARE, moved(SLIVER, Fraction(1, 9), 3, 4)), [])
        self.assertEqual(pushes(BOX, shape((0, 0), (5 + LITTLE, 0), (0, 1))), [])
        self.assertEqual(pushes(DIAMOND, shape((0, 0), (1, 0), (1, 5), (0, 5))), [])
        self.assertEqual(pushes(shape((0, 0), (100, 0), (100, 1), (0, 1)), shape((0, 0), (1, 0), (1, 2), (0, 2))), [])
        self.assertEqual(pushes(shape((0, 0), (1, 0), (1, 100), (0, 100)), shape((0, 0), (2, 0), (2, 1), (0, 1))), [])

    def test_one_spot(self):
        self.assertEqual(pushes(SQUARE, shape((0, 0), (2, 0), (1, 2))), [((0, 1), (0, 1))])
        self.assertEqual(pushes(SQUARE, moved(SQUARE, 1, Fraction(-7, 2), MANY)), [((7, 2), (-MANY, 1))])
        self.assertEqual(pushes(TRIANGLE, moved(half_turn(TRIANGLE), Fraction(1, 2), 0, 0)), [((2, 1), (3, 2))])
        self.assertEqual(pushes(BOX, shape((0, 0), (5, 1), (2, 2))), [((1, 1), (1, 1))])

    def test_two_spots(self):
        self.assertEqual(pushes(BOX, SQUARE), [((1, 1), (1, 1)), ((4, 1), (1, 1))])
        upright = shape((0, 0), (1, 0), (1, 7), (0, 7))
        self.assertEqual(pushes(upright, shape((0, 0), (1, 0), (0, 2))), [((0, 1), (0, 1)), ((0, 1), (5, 1))])
        rising = shape((0, 0), (1, -1), (5, 3), (4, 4))
        self.assertEqual(pushes(rising, shape((0, 0), (1, -1), (1, 0))), [((0, 1), (0, 1)), ((7, 2), (7, 2))])
        falling = shape((0, 0), (4, -4), (5, -3), (1, 1))
        found = pushes(falling, moved(shape((0, 0), (1, 0), (1, 1)), 1, MANY, 0))
        self.assertEqual(found, [((-MANY, 1), (0, 1)), ((7 - 2 * MANY, 2), (-7, 2))])

    def test_shapes(self):
        self.assertEqual(pushes(BOX, moved(SQUARE, Fraction(1, 2), 0, 0)), shape((1, 1), (5, 1), (5, 2), (1, 2)))
        self.assertEqual(pushes(TRIANGLE, moved(SQUARE, Fraction(1, 2), 0, 0)),
                         shape((0, 0), (Fraction(5, 3), 0), (0, Fraction(5, 4))))
        self.assertEqual(pushes(DIAMOND, moved(DIAMOND, Fraction(1, 3), 1, 0)),
                         shape((-3, 0), (-1, Fraction(-4, 3)), (1, 0), (-1, Fraction(4, 3))))

    def test_sides_that_fall_away(self):
        """The small cut corner is no side of the pushes any more."""
        cut = shape((0, 0), (10, 0), (10, 9), (9, 10), (0, 10))
        self.assertEqual(pushes(cut, SQUARE), shape((0, 0), (8, 0), (8, 7), (7, 8), (0, 8)))
        self.assertEqual(pushes(cut, shape((0, 0), (2, 0), (0, 2))), shape((0, 0), (8, 0), (8, 8), (0, 8)))
        self.assertEqual(pushes(cut, shape((0, 0), (1, 0), (0, 1))), shape((0, 0), (9, 0), (9, 9), (0, 9)))
        self.assertEqual(len(pushes(cut, moved(shape((0, 0), (1, 0), (0, 1)), 1 - LITTLE, 0, 0))), 5)

    def test_of_itself(self):
        for value in every_shape() + mixed_shapes() + [ROUND]:
            self.assertEqual(pushes(value, value), [((0, 1), (0, 1))])

    def test_a_shape_and_itself_pushed_and_sized(self):
        for value in mixed_shapes() + [ROUND]:
            grown = moved(value, 3, MANY, Fraction(-1, 7))
            self.assertEqual(pushes(value, grown), [])
            self.assertEqual(pushes(grown, value), moved(value, 2, MANY, Fraction(-1, 7)))

    def test_taken_away_from_a_sum(self):
        some = mixed_shapes() + [ROUND, PARABOLA, BOWED, moved(ROUND, Fraction(1, 9), MANY, 0)]
        for one in some:
            for other in some:
                self.assertEqual(pushes(slow_sum(one, other) if len(one) < 9 else summed(one, other), other), one)

    def test_in_twos(self):
        kinds = {0: 0, 1: 0, 2: 0, 3: 0}
        for one in mixed_shapes():
            for other in mixed_shapes():
                for factor in (Fraction(1), Fraction(1, 2), Fraction(1, 9), Fraction(1, 40)):
                    sized_one = moved(other, factor, Fraction(1, 3), -2)
                    found = self.check(one, sized_one)
                    kinds[min(len(found), 3)] += 1
                    if found:
                        self.check_inside(one, sized_one, found)
                        self.check_outside(one, sized_one, found)
        self.assertGreater(kinds[0], 100)
        self.assertGreater(kinds[3], 100)

    def test_many_small_ones(self):
        """Small whole corners let the region often be just a spot or a stretch."""
        kinds = {0: 0, 1: 0, 2: 0, 3: 0}
        small = [hull(points) for points in combinations([(x, y) for x in range(3) for y in range(3)], 3)]
        small = [value for value in small if len(value) == 3]
        for seed in range(40):
            one = strewn(seed + 1, 9, 4 + seed % 3)
            for other in small[seed % 5::5]:
                found = self.check(one, other)
                kinds[min(len(found), 3)] += 1
                if 0 < len(found):
                    self.check_inside(one, other, found)
                    self.check_outside(one, other, found)
        for kind in kinds:
            self.assertGreater(kinds[kind], 10, kinds)

    def test_thirty_corners(self):
        for one in (ROUND, PARABOLA, BOWED, thirty(8, MANY, 3)):
            for other in (ROUND, PARABOLA, BOWED, thirty(7, 0, MANY)):
                for factor in (Fraction(1), Fraction(1, 10), Fraction(1, 50)):
                    grown = moved(other, factor, 3, Fraction(1, MANY))
                    self.check_form(pushes(one, grown))
        small = moved(ROUND, Fraction(1, 100), 0, 0)
        found = self.check(ROUND, small)
        self.assertEqual(found, moved(ROUND, Fraction(99, 100), 0, 0))
        self.check_inside(ROUND, small, found)
        self.check_outside(ROUND, small, found)
        self.check(PARABOLA, moved(HEXAGON, Fraction(1, 3), 0, 0))
        self.check(TRIANGLE, moved(PARABOLA, Fraction(1, 90), 0, 0))

    def test_a_push_lays_it_there_just_where_it_lies_in_the_region(self):
        for one, other in [(SEVEN, SQUARE), (SEVEN, DIAMOND), (BOX, UNEVEN), (TRIANGLE, UNEVEN), (HEXAGON, UNEVEN)]:
            found = pushes(one, other)
            self.assertGreater(len(found), 2)
            for x in range(-14, 15):
                for y in range(-14, 15):
                    push = spot(Fraction(x, 3), Fraction(y, 3))
                    self.assertEqual(lies(found, push) >= 0, holds(one, pushed(other, push)))

    def test_a_region_may_be_handed_on(self):
        small = moved(HEXAGON, Fraction(1, 20), 0, 0)
        tiny = moved(UNEVEN, Fraction(1, 20), 0, 0)
        for one in (SEVEN, ROUND, BOX):
            once = pushes(pushes(one, small), tiny)
            self.assertEqual(once, pushes(one, summed(small, tiny)))

    def test_pushes_of_the_pushed(self):
        push = ((MANY, 7), (-3, 1))
        for one in mixed_shapes()[:8]:
            small = sized(SEVEN, (1, 50))
            wanted = pushes(one, small)
            self.assertEqual(pushes(pushed(one, push), pushed(small, push)), wanted)
            self.assertEqual(pushes(pushed(one, push), small), pushed(wanted, push))
