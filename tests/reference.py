"""What the tests share: checks of form, and shapes to ask about, made without the program."""

from fractions import Fraction
from math import gcd

MANY = 10 ** 80 + 129


def is_whole(value):
    return type(value) is int


def is_fraction(value):
    if type(value) is not tuple or len(value) != 2 or not all(is_whole(part) for part in value):
        return False
    return value[1] >= 1 and gcd(value[0], value[1]) == 1


def is_spot(value):
    return type(value) is tuple and len(value) == 2 and all(is_fraction(part) for part in value)


def number(fraction):
    return Fraction(fraction[0], fraction[1])


def told(value):
    value = Fraction(value)
    return (value.numerator, value.denominator)


def spot(x, y):
    return (told(x), told(y))


def shape(*corners):
    return [spot(x, y) for x, y in corners]


def place(corner):
    return (number(corner[0]), number(corner[1]))


def left_of(start, end, middle):
    """Above 0 where the middle lies to the left of the way from start to end."""
    return (end[0] - start[0]) * (middle[1] - start[1]) - (end[1] - start[1]) * (middle[0] - start[0])


def is_shape(value):
    """Corners of which each side has all others to its left go round once, with left turns alone."""
    if type(value) is not list or len(value) < 3 or not all(is_spot(corner) for corner in value):
        return False
    places = [place(corner) for corner in value]
    if places[0] != min(places) or len(set(places)) != len(places):
        return False
    for k, start in enumerate(places):
        end = places[(k + 1) % len(places)]
        if any(left_of(start, end, other) <= 0 for other in places if other not in (start, end)):
            return False
    return True


def where(value, asked):
    places = [place(corner) for corner in value]
    asked = place(asked)
    turns = [left_of(start, end, asked) for start, end in zip(places, places[1:] + places[:1])]
    least = min(turns)
    return (least > 0) - (least < 0)


def moved(value, factor, right, up):
    return [spot(number(x) * factor + right, number(y) * factor + up) for x, y in value]


TRIANGLE = shape((0, 0), (4, 0), (0, 3))
SQUARE = shape((0, 0), (2, 0), (2, 2), (0, 2))
DIAMOND = shape((-3, 0), (0, -2), (3, 0), (0, 2))
SLIVER = shape((-7, -5), (6, 4), (13, 9))
SEVEN = shape((-4, 1), (-3, -2), (0, -4), (3, -3), (5, 0), (4, 3), (0, 4))
BROKEN = shape((0, 0), (Fraction(1, 2), 0), (0, Fraction(1, 3)))
UNEVEN = shape((Fraction(-5, 6), Fraction(1, 10)), (Fraction(3, 4), Fraction(-7, 15)),
               (Fraction(8, 9), Fraction(5, 14)), (Fraction(-1, 21), Fraction(22, 25)))
PARABOLA = shape(*[(k, k * k) for k in range(-15, 15)])


def every_shape():
    plain = [TRIANGLE, SQUARE, DIAMOND, SLIVER, SEVEN, BROKEN, UNEVEN, PARABOLA]
    small = [moved(value, Fraction(6, 35), Fraction(-11, 4), Fraction(7, 22)) for value in plain]
    far = [moved(value, 1, -MANY, 3 * MANY) for value in plain]
    fine = [moved(value, Fraction(MANY, MANY + 2), Fraction(1, MANY), Fraction(-5, MANY + 1)) for value in plain[:6]]
    great = [moved(value, MANY, Fraction(1, 2), 0) for value in plain[:6]]
    return plain + small + far + fine + great
