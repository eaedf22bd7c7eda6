"""The margin of pairs."""

from pollproof.margins import Margin, pairs_by_seats
from pollproof.sets import all_of, with_one, without
from pollproof.strong import cut_by, leads_of, overs, reached_from, strength, way_by
from pollproof.strong import greatest_link, is_cut, is_way, least_link
from pollproof.wholes import down, up


class PairsMargin(Margin):
    def slip_for(self, x, y):
        others = without(without(all_of(self.way.hands), x), y)
        if others == 0:
            return (with_one(0, y),)
        return (with_one(0, y), others)

    def need_of(self, x, y, strong, back):
        # Each changed ballot moves both strengths by 2 at most, so what lies between them by 4.
        if self.way.ahead(y, x):
            return max(1, up(strong - back, 4))
        return max(1, down(strong - back, 4) + 1)

    def leads_in(self, sheet):
        return leads_of(overs(sheet, self.way.hands))

    def least(self, sheet):
        leads = self.leads_in(sheet)
        reached = [reached_from(leads, hand) for hand in range(self.way.hands)]
        paper = []
        for x, y in pairs_by_seats(self.way.outcome(sheet)):
            needed = self.need_of(x, y, reached[x][0][y], reached[y][0][x])
            paper.append((x, y, way_by(reached[x], x, y), cut_by(reached[y], y, x), needed))
        return (min([row[4] for row in paper]), paper)

    def shows(self, sheet, low, paper):
        if [(row[0], row[1]) for row in paper] != pairs_by_seats(self.way.outcome(sheet)):
            return False
        leads = self.leads_in(sheet)
        return all([self.row_shows(leads, low, row) for row in paper])

    def row_shows(self, leads, low, row):
        x = row[0]
        y = row[1]
        if not is_way(row[2], x, y, self.way.hands) or not is_cut(row[3], y, x, self.way.hands):
            return False
        return row[4] == self.need_of(x, y, least_link(leads, row[2]), greatest_link(leads, row[3])) and row[4] >= low

    def held(self, seen, unseen, known):
        if unseen == 0 or not self.possible(known):
            return True
        strengths = strength(self.leads_in(seen))
        pairs = pairs_by_seats(self.way.outcome(known))
        return all([self.stays(strengths, unseen, x, y) for x, y in pairs])

    def stays(self, strengths, unseen, x, y):
        least = strengths[x][y] - unseen
        most = strengths[y][x] + unseen
        return most <= least if self.way.ahead(x, y) else most < least
