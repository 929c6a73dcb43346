"""Fits: the greatest factor by which one shape lies within another, and shapes that are one but for push and size."""

from snugfit.bounds import bounds_of, drop, earliest, ends_all, meeting, trio_at, weights_of
from snugfit.ratios import divisor, minus, over, ratio
from snugfit.sums import pushed, sized


def fit(one, other):
    bounds = bounds_of(one, other)
    k = earliest(bounds)
    while not ends_all(bounds, k):
        drop(bounds, k)
        k = earliest(bounds)
    trio = trio_at(bounds, k)
    closing = bounds[k].closing
    factor = ratio(closing[0], closing[1])
    shares = shares_of(trio)
    places = [place for place, weight in shares]
    weights = [weight for place, weight in shares]
    return (factor, meeting(trio[0], trio[1], factor), places, weights)


# The places of a trio, rising, each with its weight. The middle one has no share where the outer two face one another.
def shares_of(trio):
    weights = weights_of(trio)
    shared = 0
    for weight in weights:
        shared = divisor(shared, weight)
    shares = [(bound.place, weight // shared) for bound, weight in zip(trio, weights) if weight != 0]
    return sorted(shares)


def alike(one, other):
    # From the corner that comes ahead of all, the first side always leads to the right, so neither width is 0.
    factor = over(minus(one[1][0], one[0][0]), minus(other[1][0], other[0][0]))
    grown = sized(other, factor)
    push = (minus(one[0][0], grown[0][0]), minus(one[0][1], grown[0][1]))
    if pushed(grown, push) == one:
        return (factor, push)
    return None
