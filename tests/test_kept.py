"""What is handed in stays as it is, what is told is the asker's own, and the interface stands as written."""

import copy
import inspect
import unittest
from fractions import Fraction

from reference import (
    BOX, DIAMOND, HEXAGON, MANY, PARABOLA, ROUND, SEVEN, SLIVER, SQUARE, TRIANGLE, UNEVEN, is_whole, mixed_shapes,
    moved, shape)

from snugfit import errors, fits, pushes, ratios, shapes, sums

INTERFACE = [
    (ratios.divisor, ["one", "other"]), (ratios.ratio, ["top", "bottom"]), (ratios.plus, ["one", "other"]),
    (ratios.times, ["one", "other"]), (ratios.minus, ["one", "other"]), (ratios.over, ["one", "other"]),
    (ratios.below, ["one", "other"]), (shapes.shape_of, ["points"]), (shapes.sides_of, ["shape"]),
    (shapes.lies, ["shape", "spot"]), (shapes.doubled, ["shape"]), (shapes.reach, ["shape", "a", "b"]),
    (sums.pushed, ["shape", "push"]), (sums.sized, ["shape", "factor"]), (sums.turned, ["shape"]),
    (sums.summed, ["one", "other"]), (pushes.pushes, ["one", "other"]), (fits.fit, ["one", "other"]),
    (fits.alike, ["one", "other"])]
SMALL = moved(SQUARE, Fraction(1, 9), 0, 0)
ASKED = [
    (shapes.shape_of, [(0, 0), (4, 0), (1, 1), (0, 3)]), (shapes.sides_of, SEVEN),
    (shapes.lies, SEVEN, ((0, 1), (0, 1))), (shapes.doubled, SEVEN), (shapes.reach, SEVEN, 2, -3),
    (sums.pushed, SEVEN, ((0, 1), (0, 1))), (sums.pushed, SEVEN, ((1, 2), (-MANY, 3))), (sums.sized, SEVEN, (1, 1)),
    (sums.sized, SEVEN, (2, 3)), (sums.turned, SEVEN), (sums.turned, DIAMOND), (sums.summed, SEVEN, UNEVEN),
    (sums.summed, SQUARE, SQUARE), (pushes.pushes, SQUARE, SEVEN), (pushes.pushes, SQUARE, SQUARE),
    (pushes.pushes, BOX, SQUARE), (pushes.pushes, SEVEN, SMALL), (pushes.pushes, ROUND, SMALL),
    (fits.fit, SEVEN, UNEVEN), (fits.fit, SQUARE, SQUARE), (fits.fit, PARABOLA, HEXAGON),
    (fits.alike, SQUARE, SMALL), (fits.alike, SQUARE, BOX)]


def lists_in(value):
    """The value and all within it that are lists."""
    found = [value] if isinstance(value, list) else []
    if isinstance(value, (list, tuple)):
        for part in value:
            found += lists_in(part)
    return found


def whole_in(value):
    """All within it that is no list, tuple or None."""
    if value is None:
        return []
    if isinstance(value, (list, tuple)):
        return [number for part in value for number in whole_in(part)]
    return [value]


class Kept(unittest.TestCase):
    def test_nothing_that_is_handed_in_is_changed(self):
        for asked, *things in ASKED:
            handed = copy.deepcopy(things)
            asked(*handed)
            self.assertEqual(handed, things, asked)

    def test_nor_where_it_is_refused(self):
        handed = copy.deepcopy(SEVEN)
        for factor in [(0, 1), (-2, 3)]:
            with self.assertRaises(errors.NoSize):
                sums.sized(handed, factor)
        self.assertEqual(handed, SEVEN)

    def test_the_same_shape_handed_in_twice(self):
        for value in mixed_shapes():
            handed = copy.deepcopy(value)
            self.assertEqual(sums.summed(handed, handed), sums.sized(value, (2, 1)))
            self.assertEqual(pushes.pushes(handed, handed), [((0, 1), (0, 1))])
            self.assertEqual(fits.fit(handed, handed)[:2], ((1, 1), ((0, 1), (0, 1))))
            self.assertEqual(fits.alike(handed, handed), ((1, 1), ((0, 1), (0, 1))))
            self.assertEqual(handed, value)

    def test_every_list_that_is_told_is_new(self):
        for asked, *things in ASKED:
            handed = copy.deepcopy(things)
            first = asked(*handed)
            second = asked(*handed)
            kept = [id(part) for part in lists_in(handed) + lists_in(second)]
            self.assertFalse([part for part in lists_in(first) if id(part) in kept], asked)

    def test_nothing_done_or_asked_later_changes_it(self):
        wanted = [copy.deepcopy(asked(*copy.deepcopy(things))) for asked, *things in ASKED]
        told = []
        for asked, *things in ASKED:
            handed = copy.deepcopy(things)
            spoilt = asked(*handed)
            told.append(asked(*handed))
            for part in lists_in(spoilt) + lists_in(handed):
                part.reverse()
                part.append("more")
                part.pop(0)
        self.assertEqual(told, wanted)
        self.assertEqual([asked(*things) for asked, *things in ASKED], wanted)

    def test_whole_numbers_are_never_truths(self):
        for asked, *things in ASKED:
            for value in whole_in(asked(*things)):
                self.assertTrue(is_whole(value), asked)

    def test_somewhat_more_than_thirty_corners(self):
        many = shape(*[(k, k * k) for k in range(-30, 31)])
        turned = sums.turned(many)
        self.assertEqual(len(many), 61)
        total = sums.summed(many, turned)
        self.assertEqual(pushes.pushes(total, turned), many)
        self.assertEqual(fits.alike(many, moved(many, 3, 1, 1))[0], (1, 3))
        self.assertEqual(fits.fit(total, sums.turned(total))[0], (1, 1))
        self.assertGreaterEqual(2 * fits.fit(many, turned)[0][0], fits.fit(many, turned)[0][1])


class Interface(unittest.TestCase):
    def test_names_and_arguments(self):
        for asked, names in INTERFACE:
            self.assertEqual(list(inspect.signature(asked).parameters), names)

    def test_arguments_by_name(self):
        for asked, *things in ASKED:
            names = list(inspect.signature(asked).parameters)
            self.assertEqual(asked(**dict(zip(names, things))), asked(*things))

    def test_kinds(self):
        self.assertIs(type(sums.summed(TRIANGLE, SLIVER)), list)
        self.assertIs(type(pushes.pushes(TRIANGLE, SLIVER)), list)
        self.assertEqual([type(part) for part in fits.fit(TRIANGLE, SLIVER)], [tuple, tuple, list, list])
        self.assertIsNone(fits.alike(TRIANGLE, SLIVER))
        self.assertEqual([type(part) for part in fits.alike(TRIANGLE, TRIANGLE)], [tuple, tuple])
