"""Ballots: slips made of ranks and told as ranks, and what a slip says of hands."""

from pollproof.errors import NoBallot
from pollproof.sets import holds, members, with_one
from pollproof.wholes import is_whole

MOST_RANK = 1000000000


def is_rank(thing):
    return is_whole(thing) and 0 <= thing <= MOST_RANK


def are_ranks(thing, hands):
    if not isinstance(thing, list):
        return False
    return len(thing) == hands and all([is_rank(rank) for rank in thing])


def tier_at(ranks, wanted):
    tier = 0
    for hand, rank in enumerate(ranks):
        if rank == wanted:
            tier = with_one(tier, hand)
    return tier


def slip_of(ranks, hands):
    if not are_ranks(ranks, hands):
        raise NoBallot("ranks are a list of one whole number for each hand")
    return tuple([tier_at(ranks, rank) for rank in sorted(set(ranks)) if rank > 0])


def ranks_of(slip, hands):
    ranks = [0 for hand in range(hands)]
    for place, tier in enumerate(slip):
        for hand in members(tier):
            ranks[hand] = place + 1
    return ranks


def prefers(slip, x, y):
    for tier in slip:
        if holds(tier, x) and holds(tier, y):
            return 0
        if holds(tier, x):
            return 1
        if holds(tier, y):
            return -1
    return 0


def lies(slip, standing):
    for tier in slip:
        if tier & standing != 0:
            return tier & standing
    return 0
