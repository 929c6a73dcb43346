"""Pushes: all those by which one shape lies within another, as a region."""

from snugfit.bounds import bounds_of, drop, earliest, ends_all, meetings
from snugfit.ratios import below


def pushes(one, other):
    bounds = bounds_of(one, other)
    k = earliest(bounds)
    while below(bounds[k].closing, (1, 1)):
        if ends_all(bounds, k):
            return []
        drop(bounds, k)
        k = earliest(bounds)
    spots = meetings(bounds, (1, 1))
    # A side that closes just by 1 has both its ends in one spot, which is told once.
    return [spot for place, spot in enumerate(spots) if spot not in spots[:place]]
