"""Shapes pushed, sized, turned by half and added to one another."""

from snugfit.errors import NoSize
from snugfit.ratios import below, plus, times
from snugfit.shapes import cross, sides_of


def pushed(shape, push):
    return [added(corner, push) for corner in shape]


def added(one, other):
    return (plus(one[0], other[0]), plus(one[1], other[1]))


def sized(shape, factor):
    if factor[0] <= 0:
        raise NoSize("a shape is sized by a factor above 0 alone")
    return [(times(x, factor), times(y, factor)) for x, y in shape]


def turned(shape):
    # The way round stays to the left, but the corner that came behind all others now comes ahead.
    return from_first([((-x[0], x[1]), (-y[0], y[1])) for x, y in shape])


# Whether the first spot comes ahead of the second.
def ahead(one, other):
    if one[0] == other[0]:
        return below(one[1], other[1])
    return below(one[0], other[0])


# The same way round, begun at the corner that comes ahead of all others.
def from_first(corners):
    first = 0
    for k in range(len(corners)):
        if ahead(corners[k], corners[first]):
            first = k
    return corners[first:] + corners[:first]


# The sum's sides are the sides of both, in the order of the ways in which they run; sides that run alike make up one.
def summed(one, other):
    sides = sides_of(one)
    others = sides_of(other)
    corners = []
    i = 0
    j = 0
    while i < len(one) or j < len(other):
        # A shape that has been walked round is back at its first corner.
        corners.append(added(one[i % len(one)], other[j % len(other)]))
        bend = next_bend(sides[i:], others[j:])
        if bend >= 0:
            i = i + 1
        if bend <= 0:
            j = j + 1
    return corners


# Above 0 where the next of the first sides comes before the next of the other ones, below 0 where it comes behind it,
# 0 where both run alike. Both begin at the corner that comes ahead of all, and no step bends by half a turn or more;
# so the next two are never half a turn apart, and the bend from the one to the other tells their order.
def next_bend(sides, others):
    if others == []:
        return 1
    if sides == []:
        return -1
    return cross(sides[0], others[0])
