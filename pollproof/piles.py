"""Piles: where the shares of ballots lie, what hands keep of them, and how they add up."""

from pollproof.ballots import lies
from pollproof.ratios import fraction, minus, parted, times, total, under
from pollproof.sets import all_of, holds, members, size, without


def begin(sheet, hands):
    return [((1, 1), [(0, 1) for hand in range(hands)]) for line in sheet]


# What lies at each one of so many hands.
def even_part(free, many):
    # Most shares lie at one hand alone, and need no reckoning then.
    if many == 1:
        return free
    return times(free, (1, many))


def table_row(slip, free, kept, standing):
    row = list(kept)
    where = lies(slip, standing)
    if where == 0:
        row.append(free)
        return row
    row.append((0, 1))
    part = even_part(free, size(where))
    for hand in members(where):
        row[hand] = part
    return row


def table(sheet, state, standing):
    return [table_row(line[0], one[0], one[1], standing) for line, one in zip(sheet, state)]


# Shares with alike bottoms are added up as whole numbers first, since fractions take long to add up.
def weighed(sheet, shares):
    tops = {}
    for line, share in zip(sheet, shares):
        tops[share[1]] = tops.get(share[1], 0) + line[1] * share[0]
    return total([fraction(top, bottom) for bottom, top in tops.items()])


def tallies(sheet, rows, hands):
    return [weighed(sheet, [row[place] for row in rows]) for place in range(hands + 1)]


def share_at(slip, free, standing, hand):
    where = lies(slip, standing)
    if not holds(where, hand):
        return (0, 1)
    return even_part(free, size(where))


# Which part of the shares that lie at a hand it keeps when it gets its seat.
def part_kept(tally, quota):
    if under((quota, 1), tally):
        return parted((quota, 1), tally)
    return (1, 1)


def with_kept(kept, hand, given):
    new = list(kept)
    new[hand] = given
    return new


def kept_by(sheet, state, standing, hand, quota):
    shares = [share_at(line[0], one[0], standing, hand) for line, one in zip(sheet, state)]
    part = part_kept(weighed(sheet, shares), quota)
    # What is given and left is reckoned once for alike shares, since fractions take long to reckon.
    reckoned = {}
    behind = []
    for one, share in zip(state, shares):
        asked = (one[0], share)
        if asked not in reckoned:
            given = times(share, part)
            reckoned[asked] = (given, minus(one[0], given))
        behind.append((reckoned[asked][1], with_kept(one[1], hand, reckoned[asked][0])))
    return behind


def state_behind(sheet, state, standing, deed, quota):
    if deed[0] == "seat":
        return kept_by(sheet, state, standing, deed[1], quota)
    return state


def along(sheet, hands, quota, deeds):
    state = begin(sheet, hands)
    standing = all_of(hands)
    for deed in deeds:
        state = state_behind(sheet, state, standing, deed, quota)
        standing = without(standing, deed[1])
    return tallies(sheet, table(sheet, state, standing), hands)
