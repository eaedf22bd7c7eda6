"""Seats by handed-on votes."""

from pollproof.errors import NoWay
from pollproof.piles import begin, state_behind, table, tallies
from pollproof.ratios import under
from pollproof.sets import all_of, holds, size, without
from pollproof.sheets import ballots_in
from pollproof.ways import Way

MOST_PLACES = 6


class Seats(Way):
    def __init__(self, hands, seats, lots=None):
        Way.__init__(self, hands, seats, lots)
        if seats > MOST_PLACES:
            raise NoWay("handed-on votes are for 1 to 6 seats")

    def quota(self, ballots):
        return ballots // (self.seats + 1) + 1

    def standing_by_lots(self, standing):
        return [hand for hand in self.lots if holds(standing, hand)]

    def greatest(self, sums, standing):
        by_lots = self.standing_by_lots(standing)
        best = by_lots[0]
        for hand in by_lots:
            if under(sums[best], sums[hand]):
                best = hand
        return best

    def lowest(self, sums, standing):
        by_lots = self.standing_by_lots(standing)
        worst = by_lots[0]
        # Of alike ones the last by lots is sought, so an alike one takes the place.
        for hand in by_lots:
            if not under(sums[worst], sums[hand]):
                worst = hand
        return worst

    def deed_due(self, sums, standing, places, quota):
        if size(standing) <= places:
            return ("rest", None)
        if places == 0:
            return ("end", None)
        best = self.greatest(sums, standing)
        if not under(sums[best], (quota, 1)):
            return ("seat", best)
        return ("out", self.lowest(sums, standing))

    def counted(self, sheet):
        quota = self.quota(ballots_in(sheet))
        state = begin(sheet, self.hands)
        standing = all_of(self.hands)
        places = self.seats
        rounds = []
        while True:
            rows = table(sheet, state, standing)
            sums = tallies(sheet, rows, self.hands)
            deed = self.deed_due(sums, standing, places, quota)
            rounds.append((rows, sums, deed))
            if deed[1] is None:
                return rounds
            state = state_behind(sheet, state, standing, deed, quota)
            standing = without(standing, deed[1])
            if deed[0] == "seat":
                places = places - 1

    def told_by(self, paper):
        seated = [deed[1] for rows, sums, deed in paper if deed[0] == "seat"]
        named = [deed[1] for rows, sums, deed in paper]
        if paper[-1][2] == ("rest", None):
            seated.extend([hand for hand in range(self.hands) if hand not in named])
        return [1 if hand in seated else 0 for hand in range(self.hands)]
