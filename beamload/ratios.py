"""Fractions: tuples (top, bottom) of whole numbers in lowest terms, with a bottom of 1 or more."""

from beamload.errors import NoNumber
from beamload.shares import greatest_share


def fraction(top, bottom):
    if bottom == 0:
        raise NoNumber("there is no fraction with a bottom of 0")
    share = greatest_share(top, bottom)
    # Dividing both by a share below 0 turns both signs, so the bottom always comes out above 0.
    if bottom < 0:
        share = -share
    return (top // share, bottom // share)


def plus(one, other):
    return fraction(one[0] * other[1] + other[0] * one[1], one[1] * other[1])


def minus(one, other):
    return fraction(one[0] * other[1] - other[0] * one[1], one[1] * other[1])


def under(one, other):
    # Both bottoms are above 0, so multiplying by them keeps the order.
    return one[0] * other[1] < other[0] * one[1]


def times(one, other):
    return fraction(one[0] * other[0], one[1] * other[1])


def over(one, other):
    return fraction(one[0] * other[1], one[1] * other[0])
