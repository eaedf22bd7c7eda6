"""Margins: how many ballots would have to be others for another outcome, told from both sides."""

from pollproof.errors import TooHard
from pollproof.sets import with_one
from pollproof.sheets import ballots_in, changed
from pollproof.shifts import free_for, shift


def pairs_by_seats(outcome):
    pairs = []
    for x, seats in enumerate(outcome):
        if seats > 0:
            pairs.extend([(x, y) for y, others in enumerate(outcome) if others == 0])
    return pairs


class Margin:
    def __init__(self, way):
        self.way = way

    def possible(self, sheet):
        return ballots_in(sheet) > 0 and self.way.hands > self.way.seats

    def least(self, sheet):
        return (1, [])

    def shows(self, sheet, low, paper):
        return low <= 1

    def told(self, sheet):
        if not self.possible(sheet):
            return None
        least = self.least(sheet)
        high = self.high(sheet)
        return (least[0], high[0], least[1], high[1])

    def held(self, seen, unseen, known):
        if unseen == 0 or not self.possible(known):
            return True
        return self.sure_low(known) > unseen

    # Where `low` is too hard to find, what the refusal bears is still sure.
    def sure_low(self, sheet):
        try:
            return self.least(sheet)[0]
        except TooHard as hard:
            return hard.at_least

    def slip_for(self, x, y):
        return (with_one(0, y),)

    def shifted(self, sheet, pair, many):
        return shift(sheet, pair[0], pair[1], self.slip_for(pair[0], pair[1]), many)

    def enough(self, sheet, outcome, pair, below):
        low = 0
        high = free_for(sheet, self.slip_for(pair[0], pair[1]))
        # What is above `low` and not below `below` is of no use: an earlier pair is as good.
        while high - low > 1 and low + 1 < below:
            middle = (low + high) // 2
            if self.way.outcome(changed(sheet, self.shifted(sheet, pair, middle))) != outcome:
                high = middle
            else:
                low = middle
        return high

    def high(self, sheet):
        outcome = self.way.outcome(sheet)
        best = ballots_in(sheet) + 1
        best_pair = None
        for pair in pairs_by_seats(outcome):
            many = self.enough(sheet, outcome, pair, best)
            if many < best:
                best = many
                best_pair = pair
        return (best, self.shifted(sheet, best_pair, best), best_pair)
