"""The checker of papers of pairs: strengths are shown by ways and cuts, not reckoned again."""

from pollproof.strong import greatest_link, is_cut, is_way, least_link, leads_of, overs
from pollproof.ways import Checker


def pairs_in_order(hands):
    pairs = []
    for x in range(hands):
        pairs.extend([(x, y) for y in range(hands) if y != x])
    return pairs


def is_shown(leads, row):
    hands = len(leads)
    if not is_way(row[3], row[0], row[1], hands) or not is_cut(row[4], row[0], row[1], hands):
        return False
    return least_link(leads, row[3]) == row[2] and greatest_link(leads, row[4]) <= row[2]


def strengths_in(shown, hands):
    strengths = [[0 for y in range(hands)] for x in range(hands)]
    for row in shown:
        strengths[row[0]][row[1]] = row[2]
    return strengths


class PairsChecker(Checker):
    def right(self, sheet, paper):
        hands = self.way.hands
        many = overs(sheet, hands)
        if paper[0] != many or [(row[0], row[1]) for row in paper[1]] != pairs_in_order(hands):
            return False
        leads = leads_of(many)
        if not all([is_shown(leads, row) for row in paper[1]]):
            return False
        return paper[2] == self.way.picks_by(strengths_in(paper[1], hands))
