"""Piles: where the shares of ballots lie, what hands keep of them, and how they add up."""

from pollproof.ballots import lies
from pollproof.ratios import fraction, minus, parted, times, under
from pollproof.sets import all_of, holds, members, size, without
from pollproof.wholes import divisor


def begin(sheet, hands):
    return [((1, 1), [(0, 1) for hand in range(hands)]) for line in sheet]


def even_part(free, many):
    # A fraction in lowest terms has no more in common with its new bottom than with the number of hands, so that
    # great parts of it need not be gone through.
    common = divisor(free[0], many)
    return (free[0] // common, free[1] * (many // common))


def table_row(slip, free, kept, standing):
    row = list(kept)
    where = members(lies(slip, standing))
    if where == []:
        row.append(free)
        return row
    row.append((0, 1))
    part = even_part(free, len(where))
    for hand in where:
        row[hand] = part
    return row


def table(sheet, state, standing):
    return [table_row(line[0], one[0], one[1], standing) for line, one in zip(sheet, state)]


# A bottom that all the others divide, found from the greatest on, since most of the lesser ones divide that one.
def common_bottom(bottoms):
    common = 1
    for bottom in sorted(bottoms, reverse=True):
        if common % bottom != 0:
            common = common * (bottom // divisor(common, bottom))
    return common


# Added up by way of one bottom for all: fractions that are added one by one take long where their parts are great.
def weighed(sheet, shares):
    tops = {}
    for line, share in zip(sheet, shares):
        # Most shares are nought.
        if share[0] != 0:
            tops[share[1]] = tops.get(share[1], 0) + line[1] * share[0]
    common = common_bottom(tops)
    return fraction(sum([top * (common // bottom) for bottom, top in tops.items()]), common)


def tallies(sheet, rows, hands):
    return [weighed(sheet, [row[place] for row in rows]) for place in range(hands + 1)]


def share_at(slip, free, standing, hand):
    where = lies(slip, standing)
    if not holds(where, hand):
        return (0, 1)
    return even_part(free, size(where))


def part_kept(tally, quota):
    if under((quota, 1), tally):
        return parted((quota, 1), tally)
    return (1, 1)


def with_kept(kept, hand, given):
    new = list(kept)
    new[hand] = given
    return new


def kept_by(sheet, state, standing, hand, quota):
    shares = [share_at(line[0], one[0], standing, hand) for line, one in zip(sheet, state)]
    part = part_kept(weighed(sheet, shares), quota)
    # What is given and left is reckoned once for alike shares, since fractions take long to reckon.
    reckoned = {}
    behind = []
    for one, share in zip(state, shares):
        asked = (one[0], share)
        if asked not in reckoned:
            given = times(share, part)
            reckoned[asked] = (given, minus(one[0], given))
        behind.append((reckoned[asked][1], with_kept(one[1], hand, reckoned[asked][0])))
    return behind


def state_behind(sheet, state, standing, deed, quota):
    if deed[0] == "seat":
        return kept_by(sheet, state, standing, deed[1], quota)
    return state


def along(sheet, hands, quota, deeds):
    state = begin(sheet, hands)
    standing = all_of(hands)
    for deed in deeds:
        state = state_behind(sheet, state, standing, deed, quota)
        standing = without(standing, deed[1])
    return tallies(sheet, table(sheet, state, standing), hands)
