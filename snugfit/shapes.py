"""Shapes: lists of corners that go round to the left, beginning at the one that comes ahead of all."""

from snugfit.errors import NoShape
from snugfit.ratios import below, divisor, minus, plus, times


def shape_of(points):
    ordered = sorted(set(points))
    under = bent_left(ordered)
    above = bent_left(list(reversed(ordered)))
    # Each way ends where the other one begins, so its last point is left to the other.
    corners = under[:-1] + above[:-1]
    if len(corners) < 3:
        raise NoShape("the points lie on one straight line, or there are none")
    return [((x, 1), (y, 1)) for x, y in corners]


# Of points in a straight order, those at which the outermost way along their right hand bends.
def bent_left(ordered):
    way = []
    for point in ordered:
        while len(way) > 1 and turn(way[-2], way[-1], point) <= 0:
            way.pop()
        way.append(point)
    return way


# Above 0 for a turn to the left at the middle point, below 0 to the right, 0 for straight on or back.
def turn(start, middle, end):
    ahead = (middle[0] - start[0]) * (end[1] - middle[1])
    aside = (middle[1] - start[1]) * (end[0] - middle[0])
    return ahead - aside


def sides_of(shape):
    return [side_between(start, end) for start, end in steps(shape)]


# Each corner with the one to which its side leads.
def steps(shape):
    return list(zip(shape, shape[1:] + shape[:1]))


def side_between(start, end):
    # The step turned to the left by a quarter: a and b grow towards the inside, so c is the least.
    a = minus(start[1], end[1])
    b = minus(end[0], start[0])
    c = plus(times(a, start[0]), times(b, start[1]))
    return lowest_whole((a, b, c))


# Above 0 where the second of two sides runs to the left of the first, below 0 to the right, 0 along it or back.
def cross(side, other):
    return side[0] * other[1] - side[1] * other[0]


# The least whole numbers that stand to one another as the fractions do, with the same signs.
def lowest_whole(parts):
    common = 1
    for part in parts:
        common = common * part[1]
    tops = [part[0] * (common // part[1]) for part in parts]
    shared = 0
    for top in tops:
        shared = divisor(shared, top)
    return tuple([top // shared for top in tops])


# What a times x and b times y come to at a spot, for whole numbers a and b.
def level(a, b, spot):
    return plus(times((a, 1), spot[0]), times((b, 1), spot[1]))


def lies(shape, spot):
    answer = 1
    for a, b, c in sides_of(shape):
        found = level(a, b, spot)
        if below(found, (c, 1)):
            return -1
        if found == (c, 1):
            # Not told yet: the spot may lie on the side's line and still outside of another side.
            answer = 0
    return answer


def doubled(shape):
    total = (0, 1)
    for start, end in steps(shape):
        part = minus(times(start[0], end[1]), times(end[0], start[1]))
        total = plus(total, part)
    return total


def reach(shape, a, b):
    # What is greatest on a shape is greatest at one of its corners.
    best = level(a, b, shape[0])
    for corner in shape[1:]:
        found = level(a, b, corner)
        if below(best, found):
            best = found
    return best
