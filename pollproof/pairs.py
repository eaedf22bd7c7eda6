"""Pairs: a way of counting by the strongest ways between hands."""

from pollproof.sets import with_one
from pollproof.strong import cut_by, leads_of, overs, reached_from, strength, way_by
from pollproof.ways import Way


def shown_from(reached, x):
    others = [y for y in range(len(reached[0])) if y != x]
    return [(x, y, reached[0][y], way_by(reached, x, y), cut_by(reached, x, y)) for y in others]


def is_beaten(strengths, hand, others):
    return any([strengths[other][hand] > strengths[hand][other] for other in others])


class Pairs(Way):
    def strengths_of(self, sheet):
        return strength(leads_of(overs(sheet, self.hands)))

    def beats(self, sheet, x, y):
        return is_beaten(self.strengths_of(sheet), y, [x])

    def unbeaten(self, sheet):
        strengths = self.strengths_of(sheet)
        mask = 0
        for hand in range(self.hands):
            if not is_beaten(strengths, hand, self.lots):
                mask = with_one(mask, hand)
        return mask

    def picks_by(self, strengths):
        picks = []
        left = list(self.lots)
        while left != [] and len(picks) < self.seats:
            first = [hand for hand in left if not is_beaten(strengths, hand, left)][0]
            picks.append(first)
            left.remove(first)
        return picks

    def counted(self, sheet):
        many = overs(sheet, self.hands)
        leads = leads_of(many)
        shown = []
        strengths = []
        for x in range(self.hands):
            reached = reached_from(leads, x)
            shown.extend(shown_from(reached, x))
            strengths.append(reached[0])
        return (many, shown, self.picks_by(strengths))

    def told_by(self, paper):
        return [1 if hand in paper[2] else 0 for hand in range(self.hands)]
