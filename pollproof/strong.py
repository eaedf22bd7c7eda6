"""Hands by two and two: overs, leads, the strongest ways, and the cuts that no way passes more strongly."""

from pollproof.sets import all_of, holds, members, with_one


def overs(sheet, hands):
    many = [[0 for y in range(hands)] for x in range(hands)]
    for slip, number in sheet:
        behind = all_of(hands)
        for tier in slip:
            behind = behind & ~tier
            others = members(behind)
            for x in members(tier):
                for y in others:
                    many[x][y] = many[x][y] + number
    return many


def hands_of(leads):
    return list(range(len(leads)))


def leads_of(many):
    hands = hands_of(many)
    return [[many[x][y] - many[y][x] for y in hands] for x in hands]


# The strongest ways from x grow hand by hand: of the hands not reached for good, the one that is reached most
# strongly can't be reached more strongly over others of them. Told by hand: the strength, and the hand before it.
def reached_from(leads, x):
    best = list(leads[x])
    before = [x for hand in leads]
    left = [hand for hand in hands_of(leads) if hand != x]
    while left != []:
        through = max(left, key=lambda hand: best[hand])
        left.remove(through)
        for hand in left:
            link = min(best[through], leads[through][hand])
            if link > best[hand]:
                best[hand] = link
                before[hand] = through
    return (best, before)


def way_by(reached, x, y):
    way = [y]
    while way[0] != x:
        way.insert(0, reached[1][way[0]])
    return way


# With x the hands that it reaches more strongly than y: a greater link out of them would reach one more that strongly.
def cut_by(reached, x, y):
    cut = with_one(0, x)
    for hand, strong in enumerate(reached[0]):
        if strong > reached[0][y]:
            cut = with_one(cut, hand)
    return cut


def strength(leads):
    return [reached_from(leads, x)[0] for x in hands_of(leads)]


def way_between(leads, x, y):
    return way_by(reached_from(leads, x), x, y)


def cut_between(leads, x, y):
    return cut_by(reached_from(leads, x), x, y)


def is_way(way, x, y, hands):
    if len(way) < 2 or way[0] != x or way[-1] != y:
        return False
    return all([0 <= hand < hands for hand in way]) and len(set(way)) == len(way)


def is_cut(cut, x, y, hands):
    return 0 <= cut <= all_of(hands) and holds(cut, x) and not holds(cut, y)


def least_link(leads, way):
    return min([leads[one][other] for one, other in zip(way, way[1:])])


def greatest_link(leads, cut):
    outside = [hand for hand in hands_of(leads) if not holds(cut, hand)]
    return max([max([leads[hand][other] for other in outside]) for hand in members(cut)])
