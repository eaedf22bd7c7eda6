"""Whole numbers: what they are, their common divisor, and division without a rest."""


def is_whole(thing):
    # Python holds a truth to be an int; here it is no number.
    return isinstance(thing, int) and not isinstance(thing, bool)


def divisor(one, other):
    great = abs(one)
    small = abs(other)
    while small > 0:
        rest = great % small
        great = small
        small = rest
    return great


def down(top, bottom):
    return top // bottom


def up(top, bottom):
    # Division always goes down, so below 0 it goes away from 0: turned round, that is up.
    return -(-top // bottom)
