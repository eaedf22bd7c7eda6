"""Exact fractions: tuples (top, bottom) in lowest terms, the bottom from 1 on."""

from pollproof.errors import NoNumber
from pollproof.wholes import divisor, down, is_whole, up


def fraction(top, bottom):
    if not is_whole(top) or not is_whole(bottom):
        raise NoNumber("a fraction is made of two whole numbers")
    if bottom == 0:
        raise NoNumber("nothing is divided by nought")
    common = divisor(top, bottom)
    # Divided by a number of its own sign, the bottom comes out above 0.
    if bottom < 0:
        common = -common
    return (top // common, bottom // common)


def plus(one, other):
    return fraction(one[0] * other[1] + other[0] * one[1], one[1] * other[1])


def minus(one, other):
    return fraction(one[0] * other[1] - other[0] * one[1], one[1] * other[1])


def times(one, other):
    return fraction(one[0] * other[0], one[1] * other[1])


def parted(one, other):
    # By nought the new bottom is 0, which fraction refuses as it should be here.
    return fraction(one[0] * other[1], one[1] * other[0])


def under(one, other):
    # Bottoms are above 0, so multiplying by them keeps the order.
    return one[0] * other[1] < other[0] * one[1]


def least_from(one):
    return up(one[0], one[1])


def least_above(one):
    return down(one[0], one[1]) + 1


def total(some):
    so_far = (0, 1)
    for one in some:
        so_far = plus(so_far, one)
    return so_far
