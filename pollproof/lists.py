"""Lists: seats by divisors, with a hurdle."""

from pollproof.errors import NoWay
from pollproof.ratios import fraction, under
from pollproof.sets import members
from pollproof.sheets import ballots_in
from pollproof.ways import Way
from pollproof.wholes import divisor, is_whole, up

MOST_STEP = 9


def vote_of(slip):
    if slip == ():
        return None
    first = members(slip[0])
    return first[0] if len(first) == 1 else None


def votes_of(sheet, hands):
    votes = [0 for place in range(hands + 1)]
    for slip, number in sheet:
        hand = vote_of(slip)
        place = hands if hand is None else hand
        votes[place] = votes[place] + number
    return votes


def is_hurdle(thing):
    if not isinstance(thing, tuple) or len(thing) != 2:
        return False
    if not is_whole(thing[0]) or not is_whole(thing[1]):
        return False
    return 0 <= thing[0] <= thing[1] and divisor(thing[0], thing[1]) == 1


def is_step(thing):
    return is_whole(thing) and 1 <= thing <= MOST_STEP


class Lists(Way):
    def __init__(self, hands, seats, lots=None, hurdle=None, step=1):
        Way.__init__(self, hands, seats, lots)
        if hurdle is not None and not is_hurdle(hurdle):
            raise NoWay("a hurdle is a fraction from nought to one in lowest terms")
        if not is_step(step):
            raise NoWay("a step is a whole number from 1 to 9")
        self.hurdle = (0, 1) if hurdle is None else hurdle
        self.step = step

    def least_votes(self, ballots):
        return max(1, up(self.hurdle[0] * ballots, self.hurdle[1]))

    def mark(self, many, had):
        return fraction(many, 1 + self.step * had)

    def mark_or_none(self, many, least, had):
        return self.mark(many, had) if many >= least else None

    def marks_of(self, votes, least, had):
        return [self.mark_or_none(votes[hand], least, had[hand]) for hand in range(self.hands)]

    def greatest_mark(self, marks):
        by_lots = [hand for hand in self.lots if marks[hand] is not None]
        best = by_lots[0]
        for hand in by_lots:
            if under(marks[best], marks[hand]):
                best = hand
        return best

    def rounds_of(self, votes, least):
        rounds = []
        had = [0 for hand in range(self.hands)]
        while len(rounds) < self.seats:
            marks = self.marks_of(votes, least, had)
            hand = self.greatest_mark(marks)
            rounds.append((marks, hand))
            had[hand] = had[hand] + 1
        return rounds

    def counted(self, sheet):
        votes = votes_of(sheet, self.hands)
        least = self.least_votes(ballots_in(sheet))
        if max(votes[:self.hands]) < least:
            return (votes, least, [])
        return (votes, least, self.rounds_of(votes, least))

    def told_by(self, paper):
        given = [hand for marks, hand in paper[2]]
        return [given.count(hand) for hand in range(self.hands)]
