"""Boxes: the bundles of an election, taken by their seals and put right by recounts."""

from pollproof.codes import code_of, line_of
from pollproof.errors import NoBundle, NoWay, WrongNumber
from pollproof.seals import mended, seal_of
from pollproof.sheets import apart, ballots_in, joined, sheet_of
from pollproof.ways import are_hands
from pollproof.wholes import is_whole


class Box:
    def __init__(self, hands):
        if not are_hands(hands):
            raise NoWay("there are 1 to 12 hands")
        self.hands = hands
        self.bundles = []

    def many(self):
        return len(self.bundles)

    def take(self, codes, seal):
        told = mended(codes, seal)
        # All lines are told ahead of any keeping, so that a refused bundle leaves nothing behind.
        lines = [line_of(code, self.hands) for code in told[0]]
        self.bundles.append(lines)
        return (self.many() - 1, told[1])

    def lines_at(self, k):
        if not is_whole(k) or k < 0 or k >= self.many():
            raise NoBundle("no bundle has this number")
        return list(self.bundles[k])

    def sheet_at(self, k):
        return sheet_of(self.lines_at(k))

    def seal_at(self, k):
        return seal_of([code_of(line, self.hands) for line in self.lines_at(k)])

    def sheet(self):
        return joined([sheet_of(lines) for lines in self.bundles])

    def put_right(self, k, lines):
        old = self.sheet_at(k)
        new = sheet_of(lines)
        if ballots_in(new) != ballots_in(old):
            raise WrongNumber(ballots_in(old), ballots_in(new))
        self.bundles[k] = list(lines)
        return apart(old, new)
