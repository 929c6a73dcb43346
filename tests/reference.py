"""What the tests share: checks of form, slow answers, and shapes to ask about, made without the program."""

from fractions import Fraction
from itertools import combinations
from math import gcd

MANY = 10 ** 80 + 129


def is_whole(value):
    return type(value) is int


def is_fraction(value):
    if type(value) is not tuple or len(value) != 2 or not all(is_whole(part) for part in value):
        return False
    return value[1] >= 1 and gcd(value[0], value[1]) == 1


def is_spot(value):
    return type(value) is tuple and len(value) == 2 and all(is_fraction(part) for part in value)


def number(fraction):
    return Fraction(fraction[0], fraction[1])


def told(value):
    value = Fraction(value)
    return (value.numerator, value.denominator)


def spot(x, y):
    return (told(x), told(y))


def shape(*corners):
    return [spot(x, y) for x, y in corners]


def place(corner):
    return (number(corner[0]), number(corner[1]))


def left_of(start, end, middle):
    """Above 0 where the middle lies to the left of the way from start to end."""
    return (end[0] - start[0]) * (middle[1] - start[1]) - (end[1] - start[1]) * (middle[0] - start[0])


def is_shape(value):
    """Corners of which each side has all others to its left go round once, with left turns alone."""
    if type(value) is not list or len(value) < 3 or not all(is_spot(corner) for corner in value):
        return False
    places = [place(corner) for corner in value]
    if places[0] != min(places) or len(set(places)) != len(places):
        return False
    for k, start in enumerate(places):
        end = places[(k + 1) % len(places)]
        if any(left_of(start, end, other) <= 0 for other in places if other not in (start, end)):
            return False
    return True


def where(value, asked):
    places = [place(corner) for corner in value]
    asked = place(asked)
    turns = [left_of(start, end, asked) for start, end in zip(places, places[1:] + places[:1])]
    least = min(turns)
    return (least > 0) - (least < 0)


def moved(value, factor, right, up):
    return [spot(number(x) * factor + right, number(y) * factor + up) for x, y in value]


def hull(places):
    """The corners of the least convex part that has all places, in a shape's order; fewer than three where it is flat.
    """
    ordered = sorted(set(places))
    corners = []
    for way in (ordered, ordered[::-1]):
        bent = []
        for end in way:
            while len(bent) > 1 and left_of(bent[-2], bent[-1], end) <= 0:
                bent.pop()
            bent.append(end)
        corners += bent[:-1]
    return [spot(*corner) for corner in corners or ordered]


def edges(value):
    """Each side as (a, b, c), not in lowest terms."""
    places = [place(corner) for corner in value]
    found = []
    for start, end in zip(places, places[1:] + places[:1]):
        a, b = start[1] - end[1], end[0] - start[0]
        found.append((a, b, a * start[0] + b * start[1]))
    return found


def least_of(value, a, b):
    return min(a * number(x) + b * number(y) for x, y in value)


def holds(one, other):
    """Whether the other lies within the one."""
    return all(where(one, corner) >= 0 for corner in other)


def slow_pushes(one, other):
    """Of all spots where two of the bounds meet, those that keep to all bounds span the region."""
    bounds = [(a, b, c - least_of(other, a, b)) for a, b, c in edges(one)]
    kept = set()
    for (a, b, c), (d, e, f) in combinations(bounds, 2):
        cross = a * e - b * d
        if cross != 0:
            x, y = (c * e - f * b) / cross, (a * f - d * c) / cross
            if all(g * x + h * y >= k for g, h, k in bounds):
                kept.add((x, y))
    return hull(kept)


def slow_sum(one, other):
    return hull([(number(x) + number(u), number(y) + number(v)) for x, y in one for u, v in other])


def half_turn(value):
    return hull([(-number(x), -number(y)) for x, y in value])


def strewn(seed, count, wide, bottom=1):
    """A shape out of points that have no plain order."""
    points = []
    for k in range(count):
        seed = (seed * 48271 + 11) % 2147483647
        x = seed // 7 % wide
        seed = (seed * 48271 + 11) % 2147483647
        y = seed // 7 % wide
        points.append((Fraction(x, bottom), Fraction(y, bottom + k % bottom)))
    return hull(points)


def thirty(seed, far=0, bottom=1):
    """Thirty corners on a circle about (far, far), the one side of it fuller than the other."""
    places = []
    for k in range(30):
        t = Fraction(k - 14, 5) + Fraction(seed, 40 + k)
        places.append((far + (1 - t * t) / (1 + t * t) * seed / bottom, far + 2 * t / (1 + t * t) * seed / bottom))
    return hull(places)


TRIANGLE = shape((0, 0), (4, 0), (0, 3))
SQUARE = shape((0, 0), (2, 0), (2, 2), (0, 2))
DIAMOND = shape((-3, 0), (0, -2), (3, 0), (0, 2))
SLIVER = shape((-7, -5), (6, 4), (13, 9))
SEVEN = shape((-4, 1), (-3, -2), (0, -4), (3, -3), (5, 0), (4, 3), (0, 4))
BROKEN = shape((0, 0), (Fraction(1, 2), 0), (0, Fraction(1, 3)))
UNEVEN = shape((Fraction(-5, 6), Fraction(1, 10)), (Fraction(3, 4), Fraction(-7, 15)),
               (Fraction(8, 9), Fraction(5, 14)), (Fraction(-1, 21), Fraction(22, 25)))
PARABOLA = shape(*[(k, k * k) for k in range(-15, 15)])
BOX = shape((1, 1), (6, 1), (6, 3), (1, 3))
HEXAGON = shape((-2, 0), (-1, -2), (1, -2), (2, 0), (1, 2), (-1, 2))
FLAT = shape((-9, 0), (0, -1), (9, 0), (0, 1))
STEEP = shape((0, 0), (1, -40), (Fraction(3, 2), 0), (1, 40))
ROUND = thirty(5)
BOWED = half_turn(PARABOLA)


def mixed_shapes():
    """Fewer than all, to be asked about in twos and threes."""
    plain = [TRIANGLE, SQUARE, DIAMOND, SLIVER, SEVEN, UNEVEN, BOX, HEXAGON, FLAT, STEEP]
    return plain + [moved(SEVEN, Fraction(2, 3), MANY, Fraction(1, MANY)), moved(TRIANGLE, Fraction(7, 5), -MANY, 0),
                    half_turn(UNEVEN), half_turn(SLIVER), strewn(1, 9, 40), strewn(2, 12, 30, 7)]


def every_shape():
    plain = [TRIANGLE, SQUARE, DIAMOND, SLIVER, SEVEN, BROKEN, UNEVEN, PARABOLA]
    small = [moved(value, Fraction(6, 35), Fraction(-11, 4), Fraction(7, 22)) for value in plain]
    far = [moved(value, 1, -MANY, 3 * MANY) for value in plain]
    fine = [moved(value, Fraction(MANY, MANY + 2), Fraction(1, MANY), Fraction(-5, MANY + 1)) for value in plain[:6]]
    great = [moved(value, MANY, Fraction(1, 2), 0) for value in plain[:6]]
    return plain + small + far + fine + great
