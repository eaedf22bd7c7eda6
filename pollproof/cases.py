"""The margin of seats by handed-on votes: rows of deeds, and how many ballots must be others for each to be due."""

from pollproof.errors import TooHard
from pollproof.margins import Margin
from pollproof.piles import begin, state_behind, table, tallies
from pollproof.sets import all_of, members, size, with_one, without
from pollproof.sheets import ballots_in
from pollproof.wholes import down, up

MOST_OPENED = 100


# The least k of which `factor` * k is at least, or above, one fraction less the other.
# Reckoned without making fractions, since it is asked very often.
def least_filling(factor, one, other, above):
    top = one[0] * other[1] - other[0] * one[1]
    bottom = factor * one[1] * other[1]
    return down(top, bottom) + 1 if above else up(top, bottom)


def need_of_seat(way, quota, sums, standing, hand):
    needs = [0, least_filling(1, (quota, 1), sums[hand], False)]
    for x in members(without(standing, hand)):
        needs.append(least_filling(2, sums[x], sums[hand], way.ahead(x, hand)))
    return max(needs)


def need_of_out(way, quota, sums, standing, hand):
    needs = [0]
    for x in members(standing):
        needs.append(least_filling(1, sums[x], (quota, 1), True))
    for x in members(without(standing, hand)):
        needs.append(least_filling(2, sums[hand], sums[x], way.ahead(hand, x)))
    return max(needs)


def need(way, ballots, sums, standing, deed):
    if deed[0] == "seat":
        return need_of_seat(way, way.quota(ballots), sums, standing, deed[1])
    return need_of_out(way, way.quota(ballots), sums, standing, deed[1])


# A row of deeds with what is known of it: the standing hands, the places left, its need, and the state ahead of its
# last deed. The state behind it is reckoned only where the row goes on, since most rows never do.
class Case:
    def __init__(self, deeds, standing, places, needed, state):
        self.deeds = deeds
        self.standing = standing
        self.places = places
        self.needed = needed
        self.state = state

    def ended(self):
        return size(self.standing) <= self.places or self.places == 0

    def tells(self, hands):
        seated = [hand for word, hand in self.deeds if word == "seat"]
        if size(self.standing) <= self.places:
            seated.extend(members(self.standing))
        return [1 if hand in seated else 0 for hand in range(hands)]


def first_case(way, sheet):
    return Case((), all_of(way.hands), way.seats, 0, begin(sheet, way.hands))


def state_of(way, sheet, case):
    if case.deeds == ():
        return case.state
    deed = case.deeds[-1]
    quota = way.quota(ballots_in(sheet))
    return state_behind(sheet, case.state, with_one(case.standing, deed[1]), deed, quota)


def case_behind(way, ballots, sums, state, case, deed):
    places = case.places - 1 if deed[0] == "seat" else case.places
    needed = max(case.needed, need(way, ballots, sums, case.standing, deed))
    return Case(case.deeds + (deed,), without(case.standing, deed[1]), places, needed, state)


def cases_behind(way, sheet, case):
    ballots = ballots_in(sheet)
    state = state_of(way, sheet, case)
    sums = tallies(sheet, table(sheet, state, case.standing), way.hands)
    behind = []
    for hand in members(case.standing):
        for word in ("seat", "out"):
            behind.append(case_behind(way, ballots, sums, state, case, (word, hand)))
    return behind


# Waiting cases lie by need and by deeds, the more deeds the sooner; within that in the order in which they were made.
def put_waiting(waiting, case):
    waiting.setdefault((case.needed, -len(case.deeds)), []).append(case)


def take_waiting(waiting):
    first = min(list(waiting))
    case = waiting[first].pop(0)
    if waiting[first] == []:
        waiting.pop(first)
    return case


class SeatsMargin(Margin):
    def least(self, sheet):
        outcome = self.way.outcome(sheet)
        start = first_case(self.way, sheet)
        waiting = {}
        put_waiting(waiting, start)
        opened = []
        while True:
            case = take_waiting(waiting)
            if case.ended():
                if case.tells(self.way.hands) != outcome:
                    return (case.needed, self.paper_of(outcome, case.needed, start, opened))
            elif len(opened) == MOST_OPENED:
                raise TooHard(case.needed)
            else:
                behind = cases_behind(self.way, sheet, case)
                opened.append((case, behind))
                for one in behind:
                    put_waiting(waiting, one)

    # Cases of need `low` may have been opened, too; in the paper they are shut.
    def paper_of(self, outcome, low, start, opened):
        cases = [start]
        for case, behind in opened:
            if case.needed < low:
                cases.extend(behind)
        return [(case.deeds, case.needed, self.word_of(outcome, low, case)) for case in cases]

    def word_of(self, outcome, low, case):
        if case.ended():
            return "same" if case.tells(self.way.hands) == outcome else "other"
        return "open" if case.needed < low else "shut"

    def shows(self, sheet, low, paper):
        rows = {}
        for deeds, needed, word in paper:
            rows[deeds] = (needed, word)
        outcome = self.way.outcome(sheet)
        waiting = [first_case(self.way, sheet)]
        met = 0
        while waiting != []:
            case = waiting.pop()
            row = rows.get(case.deeds, (None, None))
            if row[0] != case.needed or not self.word_fits(outcome, low, case, row[1]):
                return False
            met = met + 1
            if row[1] == "open":
                waiting.extend(cases_behind(self.way, sheet, case))
        # Each row was met just once where none stands there twice and each goes on from an open one.
        return met == len(paper)

    def word_fits(self, outcome, low, case, word):
        if word == "open":
            return not case.ended()
        if word == "shut":
            return not case.ended() and case.needed >= low
        if word == "same":
            return case.ended() and case.tells(self.way.hands) == outcome
        if word == "other":
            return case.ended() and case.tells(self.way.hands) != outcome and case.needed >= low
        return False
