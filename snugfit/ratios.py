"""Fractions: tuples (top, bottom) in lowest terms, the bottom from 1 on."""

from snugfit.errors import NoNumber


def divisor(one, other):
    great = abs(one)
    small = abs(other)
    while small != 0:
        rest = great % small
        great = small
        small = rest
    return great


def ratio(top, bottom):
    if bottom == 0:
        # The words leave the top out: Python won't write numbers of some thousand figures.
        raise NoNumber("nothing is divided by 0")
    shared = divisor(top, bottom)
    if bottom < 0:
        # Dividing by a number below nought lifts the bottom above it.
        shared = -shared
    return (top // shared, bottom // shared)


def plus(one, other):
    # Of the sum's top and bottom only a divisor of both bottoms can divide both. To look for it there
    # keeps long sums quick, where one bottom has many more figures than the other.
    shared = divisor(one[1], other[1])
    top = one[0] * (other[1] // shared) + other[0] * (one[1] // shared)
    rest = divisor(top, shared)
    return (top // rest, (one[1] // shared) * (other[1] // rest))


def minus(one, other):
    return plus(one, (-other[0], other[1]))


def times(one, other):
    return ratio(one[0] * other[0], one[1] * other[1])


def over(one, other):
    return ratio(one[0] * other[1], one[1] * other[0])


def below(one, other):
    # Bottoms are above nought, so multiplying by both keeps the order.
    return one[0] * other[1] < other[0] * one[1]
