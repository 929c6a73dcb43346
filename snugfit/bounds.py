"""The bounds of pushes: how the sides of one shape close in on the pushes of another one that grows."""

from snugfit.ratios import below, minus, over, times
from snugfit.shapes import cross, reach, sides_of


# A side of the one shape, with the least that a times x and b times y come to for the other shape. The other, sized by
# a factor and pushed, keeps to this side where a times x and b times y of the push come to c less factor times least,
# or to more.
class Bound:
    def __init__(self, place, side, least):
        self.place = place
        self.side = side
        self.least = least
        self.closing = None


# While the factor grows from 0, the region of pushes shrinks, beginning as the one shape itself; its sides shrink too,
# none ever grows. The bounds go round it to the left, and each one's closing is the factor by which its side has
# shrunk to a spot: a pair (top, bottom) with the bottom above 0, not in lowest terms, or None where it never does
# between the two bounds beside it.
def bounds_of(one, other):
    bounds = []
    for place, side in enumerate(sides_of(one)):
        least = minus((0, 1), reach(other, -side[0], -side[1]))
        bounds.append(Bound(place, side, least))
    for k in range(len(bounds)):
        set_closing(trio_at(bounds, k))
    return bounds


# A bound between the two beside it.
def trio_at(bounds, k):
    return (bounds[k - 1], bounds[k], bounds[(k + 1) % len(bounds)])


# By these weights the a and the b of a trio come to 0. The outer two are above 0, for each bound bends to the left
# from the one before by less than half a turn. The middle one is above or at 0 just where the outer two, without the
# middle bound, would leave a way out.
def weights_of(trio):
    before = trio[0].side
    middle = trio[1].side
    after = trio[2].side
    return [cross(middle, after), cross(after, before), cross(before, middle)]


# The side is a spot where the weighted sum of c less factor times least comes to 0. Both sums are never above 0, so
# they are taken with the other sign. Nothing is brought to lowest terms here: numbers of many figures would take long.
def set_closing(trio):
    common = 1
    for bound in trio:
        common = common * bound.least[1]
    top = 0
    bottom = 0
    for weight, bound in zip(weights_of(trio), trio):
        top = top - weight * bound.side[2] * common
        bottom = bottom - weight * bound.least[0] * (common // bound.least[1])
    middle = trio[1]
    middle.closing = (top, bottom) if bottom > 0 else None


# The place in the list of a bound that closes before all others, or no later.
def earliest(bounds):
    first = None
    for k in range(len(bounds)):
        closing = bounds[k].closing
        if closing is not None and (first is None or below(closing, bounds[first].closing)):
            first = k
    return first


# Whether the whole region closes together with the side of this bound.
def ends_all(bounds, k):
    return weights_of(trio_at(bounds, k))[1] >= 0


# Leaves a bound out that has closed: from then on the two beside it meet.
def drop(bounds, k):
    bounds.pop(k)
    set_closing(trio_at(bounds, k - 1))
    set_closing(trio_at(bounds, k % len(bounds)))


# The spot where two bounds meet by a factor.
def meeting(one, other, factor):
    first = edge_by(one, factor)
    second = edge_by(other, factor)
    bend = (cross(one.side, other.side), 1)
    x = minus(times((other.side[1], 1), first), times((one.side[1], 1), second))
    y = minus(times((one.side[0], 1), second), times((other.side[0], 1), first))
    return (over(x, bend), over(y, bend))


# What a times x and b times y of a push must come to by a factor, at the least.
def edge_by(bound, factor):
    return minus((bound.side[2], 1), times(factor, bound.least))


# The spots where by a factor each bound meets the one before it. The first of them comes ahead of all others: the
# bounds keep the order of the sides, which run first to the right, then straight up, to the left, and straight down.
def meetings(bounds, factor):
    return [meeting(bounds[k - 1], bounds[k], factor) for k in range(len(bounds))]
