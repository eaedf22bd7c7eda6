"""Masks: sets of hands as the bits of a whole number, hand 0 the lowest bit."""


def all_of(hands):
    return (1 << hands) - 1


def holds(mask, hand):
    return (mask >> hand) & 1 == 1


def with_one(mask, hand):
    return mask | (1 << hand)


def without(mask, hand):
    return mask & ~(1 << hand)


def size(mask):
    return len(members(mask))


def members(mask):
    # Asked very often, so without a call for each hand.
    return [hand for hand in range(mask.bit_length()) if (mask >> hand) & 1 == 1]
