import copy
import itertools
import random
import unittest

from pollproof.margins import Margin
from pollproof.pairmargin import PairsMargin
from pollproof.pairs import Pairs
from pollproof.sheets import changed
from things import (
    House, all_sheets, high_by, leads_by, nearest_other, outcome_by, sheet_in, some_sheet, strengths_by, together,
)


def some_elections(many=80, hands_from=2, hands_to=5):
    dice = random.Random(81)
    for _ in range(many):
        hands = dice.randint(hands_from, hands_to)
        way = Pairs(hands, dice.randint(1, hands - 1), dice.sample(range(hands), hands))
        yield way, some_sheet(dice, hands, dice.randint(1, 7), dice.choice([1, 4, 50]))


def twos_of(way, sheet):
    outcome = outcome_by(way, sheet)
    hands = range(way.hands)
    return [(x, y) for x in hands for y in hands if outcome[x] and not outcome[y]]


def need_by(way, x, y, strong, back):
    """The least m from 1 on, sought one by one."""
    return next(m for m in itertools.count(1)
                if back + 2 * m > strong - 2 * m or way.ahead(y, x) and back + 2 * m == strong - 2 * m)


def weakest(leads, way):
    return min(leads[a][b] for a, b in zip(way, way[1:]))


def strongest(leads, cut):
    hands = range(len(leads))
    return max(leads[a][b] for a in hands for b in hands if cut >> a & 1 and not cut >> b & 1)


def all_ways(x, y, hands):
    others = [hand for hand in range(hands) if hand not in (x, y)]
    return [[x, *middle, y] for many in range(hands - 1) for middle in itertools.permutations(others, many)]


class Slips(House):
    def test_slip_for(self):
        self.assertEqual(PairsMargin(Pairs(2, 1)).slip_for(0, 1), (2,))
        self.assertEqual(PairsMargin(Pairs(2, 1)).slip_for(1, 0), (1,))
        self.assertEqual(PairsMargin(Pairs(3, 1)).slip_for(0, 1), (2, 4))
        for hands in range(3, 13):
            for x, y in itertools.permutations(range(hands), 2):
                wanted = (2 ** y, 2 ** hands - 1 - 2 ** x - 2 ** y)
                self.assertEqual(PairsMargin(Pairs(hands, 1)).slip_for(x, y), wanted)

    def test_it_is_a_margin(self):
        way = Pairs(2, 1)
        self.assertIsInstance(PairsMargin(way), Margin)
        self.assertIs(PairsMargin(way).way, way)
        for hands, seats, sheet, wanted in [(2, 1, [((), 1)], True), (2, 1, [], False), (2, 2, [((), 1)], False)]:
            self.assertIs(PairsMargin(Pairs(hands, seats)).possible(sheet), wanted)
        self.assertIsNone(PairsMargin(Pairs(2, 2)).told([((1,), 1)]))
        self.assertIsNone(PairsMargin(way).told([]))


class Low(House):
    def test_two_hands(self):
        for text, lots, wanted in [
            ("6 a, 3 b", [0, 1], 2), ("6 a, 3 b", [1, 0], 2), ("5 a, 3 b", [0, 1], 2), ("5 a, 3 b", [1, 0], 1),
            ("3 a, 3 b", [0, 1], 1), ("3 a, 3 b", [1, 0], 1), ("7 a, 3 b", [0, 1], 3), ("7 a, 3 b", [1, 0], 2),
            ("4 ", [1, 0], 1),
        ]:
            with self.subTest(text=text, lots=lots):
                self.assertEqual(PairsMargin(Pairs(2, 1, lots)).least(sheet_in(text))[0], wanted)

    def test_needs_ways_and_cuts(self):
        for way, sheet in some_elections():
            kept = list(sheet)
            low, paper = PairsMargin(way).least(sheet)
            leads = leads_by(sheet, way.hands)
            told = strengths_by(leads)
            self.assertIs(type(paper), list)
            self.assertEqual([row[:2] for row in paper], twos_of(way, sheet))
            for x, y, ways, cut, own in paper:
                self.assertEqual(own, need_by(way, x, y, told[x][y], told[y][x]))
                self.assertEqual((ways[0], ways[-1], len(set(ways))), (x, y, len(ways)))
                self.assertEqual(weakest(leads, ways), told[x][y])
                self.assertTrue(0 < cut < 2 ** way.hands and cut >> y & 1 and not cut >> x & 1)
                self.assertLessEqual(strongest(leads, cut), told[y][x])
            self.assertEqual(low, min(row[4] for row in paper))
            self.assertEqual(sheet, kept)

    def test_told_lists_are_new_ones(self):
        margin, sheet = PairsMargin(Pairs(3, 1)), sheet_in("7 a>b>c, 6 b>c>a, 5 c>a>b")
        first = margin.least(sheet)
        wanted = copy.deepcopy(first)
        first[1][0][2].clear()
        first[1].pop()
        margin.told(sheet)[3].clear()
        self.assertEqual(margin.least(sheet), wanted)


class BothSides(House):
    def assert_both_sides(self, way, sheet, sheets, outcomes):
        low, high, paper, change = PairsMargin(way).told(sheet)
        true = nearest_other(way, sheet, sheets, outcomes)
        self.assertTrue(1 <= low <= true <= high, (way.hands, way.seats, way.lots, sheet, low, true, high))
        self.assertEqual(sum(number for _, _, number in change), high)
        self.assertNotEqual(outcome_by(way, changed(sheet, change)), outcome_by(way, sheet))
        self.assertEqual(paper, PairsMargin(way).least(sheet)[1])
        return low, true, high

    def test_two_hands_all_changes(self):
        for ballots in (1, 2, 3, 4):
            sheets = all_sheets(2, ballots)
            for lots in ([0, 1], [1, 0]):
                way = Pairs(2, 1, lots)
                outcomes = [outcome_by(way, sheet) for sheet in sheets]
                for sheet in sheets:
                    low, true, high = self.assert_both_sides(way, sheet, sheets, outcomes)
                    self.assertEqual((low, high), (true, true))

    def test_two_hands_greater_sheets(self):
        dice = random.Random(82)
        for _ in range(200):
            way = Pairs(2, 1, dice.sample([0, 1], 2))
            low, high, _, _ = PairsMargin(way).told(some_sheet(dice, 2, 5, dice.choice([2, 9, 10 ** 11])))
            self.assertEqual(low, high)

    def test_three_hands_all_changes(self):
        dice = random.Random(83)
        for ballots, some in ((1, 26), (2, 80), (3, 15)):
            sheets = all_sheets(3, ballots)
            for seats in (1, 2):
                way = Pairs(3, seats, dice.sample(range(3), 3))
                outcomes = [way.outcome(sheet) for sheet in sheets]
                for sheet in dice.sample(sheets, some):
                    self.assert_both_sides(way, sheet, sheets, outcomes)

    def test_told_changes_of_greater_sheets(self):
        for way, sheet in some_elections(60):
            low, high, _, change = PairsMargin(way).told(sheet)
            self.assertTrue(1 <= low <= high)
            self.assertEqual(sum(number for _, _, number in change), high)
            self.assertNotEqual(way.outcome(changed(sheet, change)), way.outcome(sheet))

    def test_high_goes_by_its_own_slip(self):
        for way, sheet in some_elections(60):
            margin = PairsMargin(way)
            high, change, pair = margin.high(sheet)
            self.assertEqual((high, pair), high_by(margin, sheet))
            self.assertTrue(all(new == margin.slip_for(*pair) for _, new, _ in change))


class Shows(House):
    def setUp(self):
        self.sheet = sheet_in("9 a>b>c>d, 6 b>c>a>d, 5 c>a>b>d, 2 d>a")
        self.way = Pairs(4, 2)
        self.margin = PairsMargin(self.way)
        self.low, self.paper = self.margin.least(self.sheet)
        self.leads = leads_by(self.sheet, 4)

    def with_row(self, place, changes):
        paper = copy.deepcopy(self.paper)
        row = list(paper[place])
        for at, thing in changes.items():
            row[at] = thing
        paper[place] = tuple(row)
        return paper

    def assert_wrong(self, paper, low=-10 ** 9):
        kept = copy.deepcopy(paper)
        self.assertIs(self.margin.shows(self.sheet, low, paper), False, paper)
        self.assertEqual(paper, kept)

    def test_the_own_paper(self):
        for way, sheet in some_elections():
            margin = PairsMargin(way)
            low, paper = margin.least(sheet)
            for less in (low, low - 1, 1, 0, -1, -10 ** 50):
                self.assertIs(margin.shows(sheet, less, paper), True)
            for more in (low + 1, 10 ** 50):
                self.assertIs(margin.shows(sheet, more, paper), False)

    def test_all_ways_and_cuts_with_needs_of_their_own(self):
        for place, (x, y, _, _, _) in enumerate(self.paper):
            for ways in all_ways(x, y, 4):
                for cut in range(16):
                    if cut >> y & 1 and not cut >> x & 1:
                        own = need_by(self.way, x, y, weakest(self.leads, ways), strongest(self.leads, cut))
                        changes = {2: ways, 3: cut, 4: own}
                        others = min(row[4] for k, row in enumerate(self.paper) if k != place)
                        paper = self.with_row(place, changes)
                        self.assertIs(self.margin.shows(self.sheet, min(own, others), paper), True)
                        self.assertIs(self.margin.shows(self.sheet, min(own, others) + 1, paper), False)
                        self.assert_wrong(self.with_row(place, {**changes, 4: own + 1}))
                        self.assert_wrong(self.with_row(place, {**changes, 4: own - 1}))

    def test_lacking_doubled_or_out_of_order(self):
        self.assertEqual(len(self.paper), 4)
        self.assert_wrong([])
        self.assert_wrong(self.paper[::-1])
        for place in range(4):
            self.assert_wrong(self.paper[:place] + self.paper[place + 1:])
            self.assert_wrong(self.paper[:place + 1] + self.paper[place:])
        for one, other in itertools.permutations(range(4), 2):
            paper = list(self.paper)
            paper[one], paper[other] = paper[other], paper[one]
            self.assert_wrong(paper)
            paper[other] = paper[one]
            self.assert_wrong(paper)

    def test_wrong_hands(self):
        for place, (x, y, _, _, _) in enumerate(self.paper):
            for hand in (-1, 4, 10 ** 40, -10 ** 40, y):
                self.assert_wrong(self.with_row(place, {0: hand}))
            for hand in (-1, 4, 10 ** 40, -10 ** 40, x):
                self.assert_wrong(self.with_row(place, {1: hand}))
            self.assert_wrong(self.with_row(place, {0: y, 1: x}))

    def test_wrong_ways(self):
        for place, (x, y, _, _, _) in enumerate(self.paper):
            z, w = [hand for hand in range(4) if hand not in (x, y)]
            for ways in ([], [x], [y], [y, x], [x, z], [z, y], [z, x, y], [x, y, z], [x, x, y], [x, y, y], [x, z, z, y],
                         [x, z, w, z, y], [x, 4, y], [x, -1, y], [x, 10 ** 40, y], [x - 4, y], [x, y - 4]):
                for own in range(1, 16):
                    self.assert_wrong(self.with_row(place, {2: ways, 4: own}))

    def test_wrong_cuts(self):
        for place, (x, y, _, _, _) in enumerate(self.paper):
            for cut in list(range(-20, 40)) + [10 ** 40, -10 ** 40, 2 ** y + 2 ** 60, 2 ** y - 2 ** 60]:
                if 0 <= cut < 16 and cut >> y & 1 and not cut >> x & 1:
                    continue
                for own in range(1, 16):
                    self.assert_wrong(self.with_row(place, {3: cut, 4: own}))

    def test_wrong_needs(self):
        for place, row in enumerate(self.paper):
            for own in range(-3, 40):
                if own != row[4]:
                    self.assert_wrong(self.with_row(place, {4: own}))
            self.assert_wrong(self.with_row(place, {4: 10 ** 40}))

    def test_each_need_is_at_least_low(self):
        for place, row in enumerate(self.paper):
            for low in range(self.low, row[4] + 3):
                wanted = all(own >= low for _, _, _, _, own in self.paper)
                self.assertIs(self.margin.shows(self.sheet, low, self.paper), wanted)

    def test_another_sheets_paper(self):
        for other in ("9 d>a>b>c, 6 b", "9 a>b>c>d, 6 b>c>a>d, 5 c>a>b>d, 9 d>a"):
            self.assertIs(self.margin.shows(sheet_in(other), self.low, self.paper), False)


class Held(House):
    def held_by(self, way, seen, unseen, known):
        if unseen == 0 or not known or way.hands <= way.seats:
            return True
        told = strengths_by(leads_by(seen, way.hands))
        return all(told[y][x] + unseen < told[x][y] - unseen
                   or way.ahead(x, y) and told[y][x] + unseen == told[x][y] - unseen for x, y in twos_of(way, known))

    def test_as_the_words_tell(self):
        dice = random.Random(85)
        answers = []
        for way, seen in some_elections(150, 2, 4):
            for unseen in (0, 1, 2, dice.randint(3, 30)):
                known = together(seen, [(((2 ** dice.randint(0, way.hands - 1)),), unseen)] if unseen else [])
                kept = copy.deepcopy((seen, known))
                answers.append(PairsMargin(way).held(seen, unseen, known))
                self.assertIs(answers[-1], self.held_by(way, seen, unseen, known))
                self.assertEqual((seen, known), kept)
        self.assertTrue(100 < sum(answers) < 500)

    def test_two_hands_lots_either_way(self):
        seen = sheet_in("6 a, 2 b")
        for lots, unseen, wanted in [([0, 1], 3, True), ([0, 1], 4, True), ([0, 1], 5, False), ([1, 0], 3, True),
                                     ([1, 0], 4, False), ([1, 0], 0, True)]:
            known = together(seen, [((1,), unseen)] if unseen else [])
            self.assertIs(PairsMargin(Pairs(2, 1, lots)).held(seen, unseen, known), wanted)

    def test_the_leads_of_seen_alone(self):
        margin = PairsMargin(Pairs(2, 1))
        # By low of what is known this would be held: the unseen ballots that it has are not sure.
        self.assertIs(margin.held([], 3, [((1,), 3)]), False)
        self.assertIs(margin.held([((2,), 2)], 1, [((1,), 1), ((2,), 2)]), True)
        self.assertIs(margin.held([((2,), 1)], 1, [((1,), 1), ((2,), 1)]), False)

    def test_not_possible(self):
        self.assertIs(PairsMargin(Pairs(2, 2)).held([], 5, [((1,), 5)]), True)
        self.assertIs(PairsMargin(Pairs(2, 1)).held([], 0, []), True)

    def test_it_goes_by_its_own_possible(self):
        class Never(PairsMargin):
            def possible(self, sheet):
                return False

        self.assertIs(PairsMargin(Pairs(2, 1)).held([], 5, [((1,), 5)]), False)
        self.assertIs(Never(Pairs(2, 1)).held([], 5, [((1,), 5)]), True)

    def test_true_only_where_no_ballots_make_another_outcome(self):
        dice = random.Random(86)
        held = 0
        for _ in range(250):
            hands, unseen = dice.choice([(2, 1), (2, 2), (2, 3), (3, 1), (3, 2)])
            way = Pairs(hands, dice.randint(1, hands), dice.sample(range(hands), hands))
            seen = some_sheet(dice, hands, 3, 5)
            others = all_sheets(hands, unseen)
            known = together(seen, dice.choice(others))
            if PairsMargin(way).held(seen, unseen, known):
                held += 1
                own = way.outcome(known)
                self.assertTrue(all(way.outcome(together(seen, other)) == own for other in others))
        self.assertGreater(held, 60)


if __name__ == "__main__":
    unittest.main()
