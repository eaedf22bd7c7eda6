"""Things that several tests hand in."""

import itertools
import math
import unittest
from collections import Counter
from fractions import Fraction

from pollproof.errors import NoWay, PollError
from pollproof.pairs import Pairs
from pollproof.seats import Seats
from pollproof.sheets import changed
from pollproof.shifts import free_for, shift


class Other:
    """A kind of its own, equal to everything, so that only its kind tells it from a number."""

    def __eq__(self, other):
        return True

    def __hash__(self):
        return 1


# Nothing of this is a whole number.
NO_WHOLES = [
    True, False, None, "", "1", "-3", 1.0, 0.0, 2.5, float("nan"), float("inf"), 1j, b"1", bytearray(b"1"),
    [], [1], (), (1,), (1, 2), {}, {1: 2}, {1}, frozenset((1,)), range(1), Fraction(1, 1), int, bool, len, object(),
    Other(), NotImplemented, ...,
]


class House(unittest.TestCase):
    """A test that can ask for a refusal by its very class."""

    def refuses(self, wanted, function, *handed):
        with self.assertRaises(PollError) as seen:
            function(*handed)
        self.assertIs(type(seen.exception), wanted)
        return seen.exception


def all_slips(hands):
    """Every slip of the hands 0 to hands - 1, the empty one too."""

    def from_left(left):
        some = [()]
        for tier in range(1, left + 1):
            if tier & left == tier:
                some += [(tier,) + rest for rest in from_left(left - tier)]
        return some

    return sorted(from_left(2 ** hands - 1))


def sheet_by(slips):
    """The sheet of single ballots, reckoned without the program."""
    return sorted(Counter(slips).items())


def all_sheets(hands, ballots):
    """Every sheet of just so many ballots."""
    return [sheet_by(slips) for slips in itertools.combinations_with_replacement(all_slips(hands), ballots)]


def some_slip(dice, hands):
    ranks = [dice.randint(0, hands) for _ in range(hands)]
    order = sorted(set(ranks) - {0})
    return tuple(sum(2 ** hand for hand in range(hands) if ranks[hand] == rank) for rank in order)


def some_sheet(dice, hands, lines, most):
    """A sheet of up to so many lines of up to so many ballots, by a random source with a seed of its own."""
    return sorted({some_slip(dice, hands): dice.randint(1, most) for _ in range(lines)}.items())


def slip_by(text):
    """A slip written as its tiers' hands: 'a>bc' is hand 0 ahead of the level hands 1 and 2."""
    return tuple(sum(2 ** (ord(sign) - ord("a")) for sign in tier) for tier in text.split(">") if tier)


def sheet_in(text):
    """A sheet written as '4 a>b, 3 b>a, 2 ' (the last one are empty ballots)."""
    ballots = Counter()
    for line in text.split(","):
        number, _, slip = line.strip().partition(" ")
        ballots[slip_by(slip)] += int(number)
    return sorted(ballots.items())


def told_fraction(value):
    """A number or Fraction of Python's as the program tells it."""
    value = Fraction(value)
    return (value.numerator, value.denominator)


def shares_by(sheet, hands, quota, deeds):
    """By line a ballot's shares at each hand and spent, behind some deeds; reckoned with Python's Fractions."""
    standing = set(range(hands))
    free = [Fraction(1) for _ in sheet]
    kept = [[Fraction(0)] * hands for _ in sheet]

    def lying():
        rows = []
        for (slip, _), left in zip(sheet, free):
            row = [Fraction(0)] * (hands + 1)
            tiers = [[hand for hand in standing if tier >> hand & 1] for tier in slip]
            first = next((tier for tier in tiers if tier), [hands])
            for place in first:
                row[place] = left / len(first)
            rows.append(row)
        return rows

    for word, hand in deeds:
        rows = lying()
        tally = sum(number * row[hand] for (_, number), row in zip(sheet, rows))
        part = Fraction(quota) / tally if tally > quota else Fraction(1)
        for place, row in enumerate(rows):
            if word == "seat":
                kept[place][hand] = row[hand] * part
                free[place] -= row[hand] * part
        standing.remove(hand)
    return [[a + b for a, b in zip(row, own + [0])] for row, own in zip(lying(), kept)]


def tallies_by(sheet, hands, quota, deeds):
    rows = shares_by(sheet, hands, quota, deeds)
    return [sum((number * row[place] for (_, number), row in zip(sheet, rows)), Fraction(0))
            for place in range(hands + 1)]


def deed_by(tally, standing, places, quota, lots):
    """The deed that is due by the four rules, first ones first."""
    if len(standing) <= places:
        return ("rest", None)
    if places == 0:
        return ("end", None)
    by_tally = sorted(standing, key=lambda hand: (-tally[hand], lots.index(hand)))
    if tally[by_tally[0]] >= quota:
        return ("seat", by_tally[0])
    return ("out", by_tally[-1])


def deeds_by(sheet, hands, seats, lots=None):
    """All deeds of a count of seats, the last one "rest" or "end"."""
    lots = lots or list(range(hands))
    quota = sum(number for _, number in sheet) // (seats + 1) + 1
    deeds = []
    while not deeds or deeds[-1][1] is not None:
        standing = [hand for hand in range(hands) if hand not in [deed[1] for deed in deeds]]
        places = seats - len([deed for deed in deeds if deed[0] == "seat"])
        deeds.append(deed_by(tallies_by(sheet, hands, quota, deeds), standing, places, quota, lots))
    return deeds


def seats_by(sheet, hands, seats, lots=None):
    """The outcome of a count of seats, reckoned with Python's Fractions."""
    deeds = deeds_by(sheet, hands, seats, lots)
    out = [hand for word, hand in deeds if word == "out"]
    seated = [hand for word, hand in deeds if word == "seat"]
    return [1 if hand in seated or deeds[-1][0] == "rest" and hand not in out else 0 for hand in range(hands)]


NO_LOTS = [
    [], [0], [0, 1], [0, 1, 2, 3], [0, 0, 1], [0, 1, 1], [2, 2, 2], [1, 2, 3], [0, 1, -1], [0, 1, 3], [0, 1, True],
    [False, 1, 2], [0, 1, None], [0, 1, "2"], ["0", "1", "2"], [0, 1, 2.0], [0, 1, [2]], [0, 1, (2,)], (0, 1, 2),
    "012", 0, 3, True, False, {0: 0, 1: 1, 2: 2}, {0, 1, 2}, range(3), "",
]


def refuses_what_a_way_refuses(test, make):
    """For Way itself and all ways beneath it: make(hands, seats, lots)."""
    for hands in NO_WHOLES + [0, 13, -1, 10 ** 59]:
        with test.subTest(hands=hands):
            test.refuses(NoWay, make, hands, 1, None)
            test.refuses(NoWay, make, hands, 1, [0])
    for seats in NO_WHOLES + [0, 61, -1, 10 ** 59]:
        with test.subTest(seats=seats):
            test.refuses(NoWay, make, 3, seats, None)
            test.refuses(NoWay, make, 3, seats, [2, 0, 1])
    for lots in NO_LOTS + [[0, 1, thing] for thing in NO_WHOLES] + [thing for thing in NO_WHOLES if thing is not None]:
        with test.subTest(lots=lots):
            test.refuses(NoWay, make, 3, 1, lots)


def altered(thing):
    """Copies of a paper with one thing in it altered: a number, a word, None, or a list's length."""
    if thing is None:
        yield from (0, 1)
    elif type(thing) is int:
        yield from (thing + 1, thing - 1, -thing - 1, thing + 10 ** 30)
    elif type(thing) is str:
        yield from (thing + "s", "", "out" if thing == "seat" else "seat", "rest" if thing == "end" else "end")
    else:
        for place, part in enumerate(thing):
            for other in altered(part):
                yield thing[:place] + type(thing)([other]) + thing[place + 1:]
        if type(thing) is list:
            yield from altered_lists(thing)


def altered_lists(some):
    """Copies of a list that is longer, shorter, empty or turned round."""
    for place in range(len(some)):
        yield some[:place] + some[place + 1:]
        yield some[:place + 1] + some[place:]
    if len(some) > 1:
        yield []
        if some[::-1] != some:
            yield some[::-1]


def leads_by(sheet, hands):
    """The leads, ballot by ballot, by the places of hands on slips."""
    leads = [[0] * hands for _ in range(hands)]
    for slip, number in sheet:
        place = [next((k for k, tier in enumerate(slip) if tier >> hand & 1), 99) for hand in range(hands)]
        for x, y in itertools.permutations(range(hands), 2):
            leads[x][y] += number * ((place[x] < place[y]) - (place[x] > place[y]))
    return leads


def strengths_by(leads):
    """The strengths, reckoned along every way one by one."""
    hands = len(leads)
    told = [[0] * hands for _ in range(hands)]
    for x, y in itertools.permutations(range(hands), 2):
        others = [hand for hand in range(hands) if hand not in (x, y)]
        ways = [(x,) + middle + (y,) for many in range(hands - 1) for middle in itertools.permutations(others, many)]
        told[x][y] = max(min(leads[a][b] for a, b in zip(way, way[1:])) for way in ways)
    return told


def picks_from(strengths, seats, lots):
    """The hands picked by some strengths, one by one."""
    left, picks = list(range(len(strengths))), []
    while left and len(picks) < seats:
        free = [x for x in left if all(strengths[x][y] >= strengths[y][x] for y in left)]
        picks.append(min(free, key=lots.index))
        left.remove(picks[-1])
    return picks


def votes_by(sheet, hands):
    votes = [0] * (hands + 1)
    for slip, number in sheet:
        alone = [hand for hand in range(hands) if slip and slip[0] == 2 ** hand]
        votes[alone[0] if alone else hands] += number
    return votes


def least_by(ballots, hurdle):
    return max(1, math.ceil(Fraction(*hurdle) * ballots))


def lists_by(votes, least, seats, lots, step):
    """The outcome of lists, all marks at once: the greatest so many, of alike ones those ahead by lots."""
    hands = len(votes) - 1
    marks = [(-Fraction(votes[hand], 1 + step * had), lots.index(hand), hand)
             for hand in range(hands) for had in range(seats) if votes[hand] >= least]
    given = [hand for _, _, hand in sorted(marks)[:seats]]
    return [given.count(hand) for hand in range(hands)]


def outcome_by(way, sheet):
    """The outcome of a sheet by a Seats, Pairs or Lists, reckoned without the program."""
    if isinstance(way, Seats):
        return seats_by(sheet, way.hands, way.seats, way.lots)
    if isinstance(way, Pairs):
        picks = picks_from(strengths_by(leads_by(sheet, way.hands)), way.seats, way.lots)
        return [int(hand in picks) for hand in range(way.hands)]
    least = least_by(sum(number for _, number in sheet), way.hurdle)
    return lists_by(votes_by(sheet, way.hands), least, way.seats, way.lots, way.step)


def ballots_apart(one, other):
    """How many ballots of the one sheet the other lacks."""
    return sum((Counter(dict(one)) - Counter(dict(other))).values())


def nearest_other(way, sheet, sheets, outcomes):
    """The fewest changed ballots that make another outcome, sought through all sheets; None where there are none."""
    own = outcome_by(way, sheet)
    far = [ballots_apart(sheet, other) for other, outcome in zip(sheets, outcomes) if outcome != own]
    return min(far) if far else None


def together(one, other):
    """One sheet of the ballots of two."""
    return sorted((Counter(dict(one)) + Counter(dict(other))).items())


def enough_by(margin, sheet, x, y):
    """The halving for one pair, to its very end."""
    slip = margin.slip_for(x, y)
    lo, hi = 0, free_for(sheet, slip)
    while hi - lo > 1:
        middle = (lo + hi) // 2
        if margin.way.outcome(changed(sheet, shift(sheet, x, y, slip, middle))) != margin.way.outcome(sheet):
            hi = middle
        else:
            lo = middle
    return hi


def high_by(margin, sheet):
    """The least of all pairs and the first pair that has it."""
    outcome = margin.way.outcome(sheet)
    pairs = [(x, y) for x in range(len(outcome)) for y in range(len(outcome)) if outcome[x] and not outcome[y]]
    every = [(enough_by(margin, sheet, x, y), (x, y)) for x, y in pairs]
    return min(every, key=lambda one: one[0])
