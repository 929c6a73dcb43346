import unittest
from fractions import Fraction

from reference import (
    BOWED, BOX, DIAMOND, FLAT, HEXAGON, MANY, PARABOLA, ROUND, SEVEN, SLIVER, SQUARE, STEEP, TRIANGLE, UNEVEN,
    every_shape, half_turn, is_shape, mixed_shapes, moved, number, shape, slow_sum, strewn, thirty)

from snugfit.shapes import doubled, reach
from snugfit.sums import pushed, sized, summed, turned


class Summed(unittest.TestCase):
    def check(self, one, other):
        found = summed(one, other)
        self.assertTrue(is_shape(found))
        self.assertEqual(found, slow_sum(one, other))
        return found

    def test_sides_that_run_alike(self):
        self.assertEqual(summed(SQUARE, SQUARE), shape((0, 0), (4, 0), (4, 4), (0, 4)))
        self.assertEqual(summed(SQUARE, BOX), shape((1, 1), (8, 1), (8, 5), (1, 5)))
        self.assertEqual(summed(SQUARE, TRIANGLE), shape((0, 0), (6, 0), (6, 2), (2, 5), (0, 5)))
        half = Fraction(1, 2)
        self.assertEqual(
            summed(TRIANGLE, shape((-half, -half), (half, -half), (-half, Fraction(1, 4)))),
            shape((-half, -half), (4 + half, -half), (-half, Fraction(13, 4))))

    def test_no_sides_that_run_alike(self):
        self.assertEqual(
            summed(SQUARE, DIAMOND),
            shape((-3, 0), (0, -2), (2, -2), (5, 0), (5, 2), (2, 4), (0, 4), (-3, 2)))
        self.assertEqual(
            summed(shape((0, 0), (3, 1), (1, 2)), shape((0, 0), (2, -1), (1, 3))),
            shape((0, 0), (2, -1), (5, 0), (4, 4), (2, 5), (1, 3)))

    def test_sides_that_run_back_along_one_another(self):
        self.assertEqual(
            summed(TRIANGLE, shape((-4, 0), (0, -3), (0, 0))),
            shape((-4, 0), (0, -3), (4, -3), (4, 0), (0, 3), (-4, 3)))

    def test_upright_sides_on_the_left_and_on_the_right(self):
        left = shape((0, 0), (1, 5), (0, 6))
        right = shape((0, 0), (1, -5), (1, 6))
        self.check(left, right)
        self.assertEqual(summed(left, left), shape((0, 0), (2, 10), (0, 12)))
        self.assertEqual(summed(right, right), shape((0, 0), (2, -10), (2, 12)))
        self.check(right, left)
        self.check(left, STEEP)
        self.check(right, STEEP)

    def test_in_twos(self):
        for one in mixed_shapes():
            for other in mixed_shapes():
                self.check(one, other)

    def test_thirty_corners(self):
        for one, other in [(PARABOLA, ROUND), (ROUND, PARABOLA), (PARABOLA, BOWED), (ROUND, thirty(8)),
                           (thirty(3, MANY, 7), thirty(4, -MANY)), (ROUND, half_turn(ROUND)), (PARABOLA, TRIANGLE)]:
            self.check(one, other)
        self.assertEqual(len(summed(ROUND, thirty(8))), 60)
        self.assertEqual(len(summed(PARABOLA, PARABOLA)), 30)

    def test_with_itself_it_is_sized_by_two(self):
        for value in every_shape() + mixed_shapes() + [ROUND]:
            self.assertEqual(summed(value, value), sized(value, (2, 1)))

    def test_with_its_half_turn(self):
        for value in every_shape() + mixed_shapes() + [ROUND]:
            found = self.check(value, turned(value))
            self.assertEqual(turned(found), found)

    def test_of_a_sized_one(self):
        for value in mixed_shapes():
            self.assertEqual(summed(sized(value, (2, 3)), sized(value, (5, 7))), sized(value, (29, 21)))

    def test_either_way_about(self):
        for one in mixed_shapes():
            for other in mixed_shapes():
                self.assertEqual(summed(one, other), summed(other, one))

    def test_of_three_whichever_two_first(self):
        some = [TRIANGLE, SEVEN, UNEVEN, SLIVER, FLAT, moved(HEXAGON, Fraction(1, 3), MANY, 0), strewn(5, 12, 50)]
        for one in some:
            for two in some:
                for three in some:
                    self.assertEqual(summed(summed(one, two), three), summed(one, summed(two, three)))

    def test_each_corner_is_two_corners_added(self):
        for one in mixed_shapes():
            for other in mixed_shapes():
                added = {(number(x) + number(u), number(y) + number(v)) for x, y in one for u, v in other}
                for x, y in summed(one, other):
                    self.assertIn((number(x), number(y)), added)

    def test_a_push_of_the_one_pushes_the_sum(self):
        for one in mixed_shapes():
            push = ((-MANY, 3), (5, MANY))
            self.assertEqual(summed(pushed(one, push), HEXAGON), pushed(summed(one, HEXAGON), push))

    def test_reaches_add(self):
        for one in mixed_shapes():
            for a, b in [(1, 0), (-2, 3), (0, -1), (MANY, 5)]:
                wanted = number(reach(one, a, b)) + number(reach(SEVEN, a, b))
                self.assertEqual(number(reach(summed(one, SEVEN), a, b)), wanted)
            self.assertGreater(number(doubled(summed(one, SEVEN))), number(doubled(one)) + number(doubled(SEVEN)))
