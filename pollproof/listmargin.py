"""The margin of lists, which is exact."""

from pollproof.lists import vote_of, votes_of
from pollproof.margins import Margin
from pollproof.ratios import under
from pollproof.sets import with_one
from pollproof.sheets import ballots_in
from pollproof.shifts import rows_to
from pollproof.wholes import down, up


class ListsMargin(Margin):
    def possible(self, sheet):
        return ballots_in(sheet) > 0

    def votes_to_overtake(self, votes, outcome, b, a):
        # Each moved vote counts for a and against b; marks are multiplied by both divisors, to compare whole numbers.
        by_b = 1 + self.way.step * (outcome[b] - 1)
        by_a = 1 + self.way.step * outcome[a]
        lacking = votes[b] * by_a - votes[a] * by_b
        if self.way.ahead(a, b):
            return up(lacking, by_a + by_b)
        return down(lacking, by_a + by_b) + 1

    def cases_of_hand(self, votes, outcome, least, b):
        to_fall = votes[b] - least + 1
        cases = [("fall", b, None, to_fall)]
        for a in range(self.way.hands):
            if a != b:
                to_pass = min(to_fall, self.votes_to_overtake(votes, outcome, b, a))
                cases.append(("pass", b, a, max(least - votes[a], to_pass)))
        return cases

    def cases_of(self, sheet):
        votes = votes_of(sheet, self.way.hands)
        least = self.way.least_votes(ballots_in(sheet))
        outcome = self.way.outcome(sheet)
        if max(outcome) == 0:
            return [("rise", None, a, least - votes[a]) for a in range(self.way.hands)]
        cases = []
        for b in range(self.way.hands):
            if outcome[b] > 0:
                cases.extend(self.cases_of_hand(votes, outcome, least, b))
        return cases

    def least(self, sheet):
        cases = self.cases_of(sheet)
        return (min([case[3] for case in cases]), cases)

    def change_for(self, sheet, word, b, a, many):
        slip = () if word == "fall" else (with_one(0, a),)
        if word == "rise":
            return rows_to([line for line in sheet if vote_of(line[0]) != a], slip, many)
        return rows_to([line for line in sheet if vote_of(line[0]) == b], slip, many)

    def high(self, sheet):
        least = self.least(sheet)
        first = [case for case in least[1] if case[3] == least[0]][0]
        return (least[0], self.change_for(sheet, first[0], first[1], first[2], first[3]), None)

    def shows(self, sheet, low, paper):
        least = self.least(sheet)
        return paper == least[1] and low <= least[0]

    def goes_ahead(self, a, mark, b, other):
        return under(other, mark) or (mark == other and self.way.ahead(a, b))

    # Nothing unseen is worse for b than votes for a alone, so only these are looked at.
    def may_pass(self, votes, unseen, outcome, least, b, a):
        if votes[a] + unseen < least:
            return False
        mark = self.way.mark(votes[a] + unseen, outcome[a])
        return self.goes_ahead(a, mark, b, self.way.mark(votes[b], outcome[b] - 1))

    def stays(self, votes, unseen, outcome, least, b):
        if votes[b] < least:
            return False
        others = [a for a in range(self.way.hands) if a != b]
        return not any([self.may_pass(votes, unseen, outcome, least, b, a) for a in others])

    def held(self, seen, unseen, known):
        if unseen == 0:
            return True
        votes = votes_of(seen, self.way.hands)
        outcome = self.way.outcome(known)
        least = self.way.least_votes(ballots_in(known))
        if max(outcome) == 0:
            return max(votes[:self.way.hands]) + unseen < least
        seated = [b for b in range(self.way.hands) if outcome[b] > 0]
        return all([self.stays(votes, unseen, outcome, least, b) for b in seated])
