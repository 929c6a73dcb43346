import copy
import unittest
from itertools import combinations, permutations

from reference import MANY, is_shape, is_spot, left_of, place, shape

from snugfit.errors import FitError, NoNumber, NoShape, NoSize
from snugfit.shapes import shape_of

GRID = [(x, y) for x in range(-1, 2) for y in range(3)]
SCALES = [(1, 0, 0), (7, -50, 13), (MANY, 0, 0), (1, MANY, -5 * MANY), (-(10 ** 5000), 3, 10 ** 5000)]


def on_one_line(points):
    return all(left_of(one, two, three) == 0 for one, two, three in combinations(points, 3))


def spread(points):
    """The points in an order that has little to do with theirs."""
    return sorted(points, key=lambda point: (7919 * point[0] + 104729 * point[1]) % 1009)


class ShapeOfPoints(unittest.TestCase):
    def check(self, points):
        """Corners out of the points that have all points to their left are the least convex part."""
        found = shape_of(points)
        self.assertTrue(is_shape(found))
        places = [place(corner) for corner in found]
        self.assertLessEqual(set(places), set(points))
        for start, end in zip(places, places[1:] + places[:1]):
            self.assertTrue(all(left_of(start, end, point) >= 0 for point in points))
        return found

    def refused(self, points):
        for kind in (NoShape, FitError, ValueError):
            with self.assertRaises(kind) as caught:
                shape_of(points)
            self.assertIsInstance(caught.exception, NoShape)
            self.assertNotIsInstance(caught.exception, (NoNumber, NoSize))

    def test_by_hand(self):
        self.assertEqual(shape_of([(0, 0), (4, 0), (0, 3)]), [((0, 1), (0, 1)), ((4, 1), (0, 1)), ((0, 1), (3, 1))])
        self.assertEqual(shape_of([(2, 2), (0, 0), (2, 0), (0, 2)]), shape((0, 0), (2, 0), (2, 2), (0, 2)))
        self.assertEqual(shape_of([(0, -2), (3, 0), (-3, 0), (0, 2)]), shape((-3, 0), (0, -2), (3, 0), (0, 2)))
        self.assertEqual(shape_of([(13, 9), (6, 4), (-7, -5)]), shape((-7, -5), (6, 4), (13, 9)))
        self.assertEqual(shape_of([(5, 5), (5, -5), (-1, 0)]), shape((-1, 0), (5, -5), (5, 5)))

    def test_points_on_sides_and_inside_are_no_corners(self):
        points = [(x, y) for x in range(4) for y in range(4)]
        self.assertEqual(shape_of(points), shape((0, 0), (3, 0), (3, 3), (0, 3)))
        points = [(0, 0), (2, 1), (4, 2), (6, 3), (0, 6), (2, 5), (4, 4), (0, 2), (1, 3)]
        self.assertEqual(shape_of(points), shape((0, 0), (6, 3), (0, 6)))

    def test_any_order(self):
        wanted = shape((-1, 1), (0, 0), (3, 0), (2, 4))
        for points in permutations([(3, 0), (0, 0), (2, 4), (-1, 1), (1, 1), (1, 0)]):
            self.assertEqual(shape_of(list(points)), wanted)

    def test_alike_points(self):
        points = [(0, 0), (4, 0), (0, 0), (0, 3), (4, 0), (1, 1), (0, 3), (2, 0), (1, 1), (2, 0), (0, 0)]
        self.assertEqual(shape_of(points), shape((0, 0), (4, 0), (0, 3)))

    def test_every_choice_of_a_grid(self):
        for count in range(len(GRID) + 1):
            for points in combinations(GRID, count):
                if on_one_line(points):
                    self.refused(list(points))
                else:
                    self.check(list(points))

    def test_few_and_many_figures(self):
        points = [(0, 0), (5, 1), (2, 2), (6, 6), (1, 5), (-3, 2), (0, 6), (3, 0), (10, 2), (3, 3)]
        for factor, right, up in SCALES:
            moved = [(factor * x + right, factor * y + up) for x, y in points]
            self.check(moved)
            self.check(list(reversed(moved)))

    def test_barely_bent(self):
        self.assertEqual(len(self.check([(0, 0), (MANY, MANY + 1), (2 * MANY, 2 * MANY + 1)])), 3)
        self.assertEqual(len(self.check([(0, 0), (MANY, 0), (2 * MANY, 0), (MANY, 1), (MANY, -1)])), 4)
        self.refused([(0, 0), (MANY, MANY + 1), (2 * MANY, 2 * MANY + 2)])

    def test_two_hundred_points(self):
        bowed = [(k, k * k) for k in range(-100, 100)]
        self.assertEqual(len(self.check(spread(bowed))), 200)
        filled = [(x, y) for x in range(20) for y in range(10)]
        self.assertEqual(self.check(spread(filled)), shape((0, 0), (19, 0), (19, 9), (0, 9)))
        strewn = [(k * k * 37 % 101, k * k * k * 11 % 97) for k in range(200)]
        self.check(strewn)
        self.check([(MANY * x - y, MANY * y + x) for x, y in strewn])
        self.assertEqual(len(self.check([(0, 0)] * 100 + [(1, 0)] * 50 + [(0, 1)] * 50)), 3)

    def test_too_few_are_refused(self):
        self.refused([])
        self.refused([(0, 0)])
        self.refused([(3, -4)])
        self.refused([(3, -4)] * 200)
        self.refused([(0, 0), (1, 0)])
        self.refused([(0, 0), (1, 0), (0, 0), (1, 0)])

    def test_one_line_is_refused(self):
        for right, up in [(1, 0), (0, 1), (1, 1), (1, -1), (3, 2), (-2, 5)]:
            for factor, x, y in SCALES:
                points = [(factor * right * k + x, factor * up * k + y) for k in (2, 0, 3, -4, 3, 1)]
                self.refused(points)
                self.refused(points * 30)

    def test_one_point_beside_the_line(self):
        for right, up in [(1, 0), (0, 1), (1, 1), (1, -1), (3, 2), (-2, 5)]:
            points = [(right * k, up * k) for k in (2, 0, 3, -4, 3, 1)]
            for beside in [(7, 20), (-7, -20), (20, 7), (-20, -9)]:
                self.assertEqual(len(self.check(points + [beside])), 3)

    def test_corners_are_tuples_of_two_fractions(self):
        for corner in shape_of([(0, 0), (4, 2), (-6, 3), (MANY, -MANY)]):
            self.assertTrue(is_spot(corner))

    def test_what_is_handed_in_stays(self):
        points = [(4, 0), (0, 3), (4, 0), (0, 0), (1, 1)]
        kept = copy.deepcopy(points)
        shape_of(points)
        self.assertEqual(points, kept)
        straight = [(4, 4), (0, 0), (4, 4), (1, 1)]
        kept = copy.deepcopy(straight)
        self.refused(straight)
        self.assertEqual(straight, kept)

    def test_what_is_told_is_the_askers_own(self):
        points = [(0, 0), (4, 0), (0, 3)]
        wanted = shape((0, 0), (4, 0), (0, 3))
        first = shape_of(points)
        second = shape_of(points)
        self.assertIsNot(first, second)
        first.reverse()
        first.append("more")
        self.assertEqual(second, wanted)
        self.assertEqual(shape_of(points), wanted)
        points.clear()
        self.assertEqual(second, wanted)
