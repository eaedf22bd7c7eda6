import copy
import itertools
import random
import unittest

from pollproof.paircheck import PairsChecker
from pollproof.pairs import Pairs
from pollproof.ways import Checker
from things import House, leads_by, picks_from, sheet_in, some_sheet, strengths_by

SHEET = sheet_in("7 a>b>c, 6 b>c>a, 5 c>a>b")
WAY = Pairs(3, 2)
CHECKER = PairsChecker(WAY)


def some_elections():
    dice = random.Random(59)
    for _ in range(60):
        hands = dice.randint(1, 5)
        way = Pairs(hands, dice.randint(1, hands + 1), dice.sample(range(hands), hands))
        yield way, some_sheet(dice, hands, dice.randint(0, 6), dice.choice([1, 4, 30]))


def all_ways(x, y, hands):
    others = [hand for hand in range(hands) if hand not in (x, y)]
    return [[x, *middle, y] for many in range(hands - 1) for middle in itertools.permutations(others, many)]


def all_cuts(x, y, hands):
    return [cut for cut in range(2 ** hands) if cut >> x & 1 and not cut >> y & 1]


def weakest(leads, way):
    return min(leads[a][b] for a, b in zip(way, way[1:]))


def strongest(leads, cut):
    hands = range(len(leads))
    return max(leads[a][b] for a in hands for b in hands if cut >> a & 1 and not cut >> b & 1)


class PairsPapers(House):
    def with_row(self, place, changes, base=None):
        """The own paper with some things of one tuple put otherwise."""
        many, shown, picks = copy.deepcopy(base or WAY.counted(SHEET))
        row = list(shown[place])
        for at, thing in changes.items():
            row[at] = thing
        shown[place] = tuple(row)
        return (many, shown, picks)

    def assert_wrong(self, paper, sheet=SHEET, checker=CHECKER):
        kept = copy.deepcopy((sheet, paper))
        self.assertIs(checker.right(sheet, paper), False, paper)
        self.assertIs(checker.passes(sheet, paper, checker.way.outcome(sheet)), False)
        self.assertEqual((sheet, paper), kept)

    def test_it_is_a_checker(self):
        self.assertIsInstance(CHECKER, Checker)
        self.assertIs(CHECKER.way, WAY)

    def test_the_ways_own_paper_is_right(self):
        for way, sheet in some_elections():
            paper = way.counted(sheet)
            self.assertIs(PairsChecker(way).right(sheet, paper), True)
            self.assertIs(PairsChecker(way).passes(sheet, paper, way.outcome(sheet)), True)
            self.assertIs(PairsChecker(way).passes(sheet, paper, [0] * way.hands), False)

    def test_each_way_and_cut_for_each_pair(self):
        for way, sheet in itertools.islice(some_elections(), 20):
            if way.hands > 4:
                continue
            leads, base = leads_by(sheet, way.hands), way.counted(sheet)
            told = strengths_by(leads)
            for place, (x, y, strong, _, _) in enumerate(base[1]):
                for other in all_ways(x, y, way.hands):
                    paper = self.with_row(place, {3: other}, base)
                    self.assertIs(PairsChecker(way).right(sheet, paper), weakest(leads, other) == told[x][y])
                for cut in range(-2, 2 ** way.hands + 3):
                    paper = self.with_row(place, {4: cut}, base)
                    fits = cut in all_cuts(x, y, way.hands) and strongest(leads, cut) <= strong
                    self.assertIs(PairsChecker(way).right(sheet, paper), fits, (cut, x, y))

    def test_other_ways_and_cuts_that_show_the_same_are_right(self):
        sheet = [((), 4)]
        way = Pairs(4, 1)
        paper = way.counted(sheet)
        shown = [(x, y, 0, all_ways(x, y, 4)[-1], all_cuts(x, y, 4)[-1]) for x, y, _, _, _ in paper[1]]
        self.assertNotEqual(shown, paper[1])
        self.assertIs(PairsChecker(way).right(sheet, (paper[0], shown, paper[2])), True)

    def test_overs_of_another_sheet(self):
        many, shown, picks = WAY.counted(SHEET)
        for x, y in itertools.product(range(3), range(3)):
            for more in (1, -1):
                other = copy.deepcopy(many)
                other[x][y] += more
                self.assert_wrong((other, shown, picks))
                # The leads stay, where both are altered alike.
                other[y][x] += more if x != y else 0
                self.assert_wrong((other, shown, picks))
        for other in ([], many[:2], many + [[0, 0, 0]], [row[:2] for row in many], [row + [0] for row in many]):
            self.assert_wrong((other, shown, picks))
        self.assert_wrong(WAY.counted(SHEET), sheet_in("7 a>b>c, 6 b>c>a, 5 c>a>b, 1 a"))

    def test_tuples_lacking_doubled_or_out_of_order(self):
        many, shown, picks = WAY.counted(SHEET)
        for place in range(6):
            self.assert_wrong((many, shown[:place] + shown[place + 1:], picks))
            self.assert_wrong((many, shown[:place + 1] + shown[place:], picks))
        for one, other in itertools.combinations(range(6), 2):
            swapped = list(shown)
            swapped[one], swapped[other] = shown[other], shown[one]
            self.assert_wrong((many, swapped, picks))
            doubled = list(shown)
            doubled[one] = shown[other]
            self.assert_wrong((many, doubled, picks))
        self.assert_wrong((many, [], picks))
        self.assert_wrong((many, shown[::-1], picks))

    def test_wrong_hands_of_a_tuple(self):
        for place in range(6):
            for number in (-1, 3, 7, -10 ** 40, 10 ** 40):
                self.assert_wrong(self.with_row(place, {0: number}))
                self.assert_wrong(self.with_row(place, {1: number}))

    def test_a_strength_too_great_or_too_small(self):
        leads = leads_by(SHEET, 3)
        for place, (x, y, strong, _, _) in enumerate(WAY.counted(SHEET)[1]):
            for wrong in (strong + 1, strong - 1, strong + 2, strong - 2, 0, -strong, 10 ** 40, -10 ** 40):
                if wrong == strong:
                    continue
                for way, cut in itertools.product(all_ways(x, y, 3), all_cuts(x, y, 3)):
                    self.assert_wrong(self.with_row(place, {2: wrong, 3: way, 4: cut}))
            # A weaker way, told with its own strength: no cut shows that.
            for way in all_ways(x, y, 3):
                if weakest(leads, way) < strong:
                    for cut in all_cuts(x, y, 3):
                        self.assert_wrong(self.with_row(place, {2: weakest(leads, way), 3: way, 4: cut}))

    def test_wrong_ways(self):
        sheet, way = [((), 4)], Pairs(3, 3)
        base, checker = way.counted(sheet), PairsChecker(Pairs(3, 3))
        self.assertIs(checker.right(sheet, base), True)
        for place, (x, y, _, _, _) in enumerate(base[1]):
            z = 3 - x - y
            for wrong in ([], [x], [y], [y, x], [x, z], [z, y], [z, x, y], [x, y, z], [x, x, y], [x, y, y],
                          [x, y, x, y],
                          [x, z, z, y], [x, z, x, y], [x, y, z, y], [x, 3, y], [x, -1, y], [x, 10 ** 40, y], [x - 3, y],
                          [x, y - 3], [z, z], [x, x]):
                self.assert_wrong(self.with_row(place, {3: wrong}, base), sheet, checker)
            for good in ([x, y], [x, z, y]):
                self.assertIs(checker.right(sheet, self.with_row(place, {3: good}, base)), True)

    def test_wrong_cuts(self):
        sheet, checker = [((), 4)], PairsChecker(Pairs(3, 3))
        base = checker.way.counted(sheet)
        for place, (x, y, _, _, _) in enumerate(base[1]):
            good = all_cuts(x, y, 3)
            self.assertEqual(len(good), 2)
            for cut in list(range(-20, 40)) + [10 ** 40, -10 ** 40, good[0] + 2 ** 60, good[0] - 2 ** 60]:
                paper = self.with_row(place, {4: cut}, base)
                self.assertIs(checker.right(sheet, paper), cut in good)

    def test_wrong_picks(self):
        for way, sheet in some_elections():
            many, shown, picks = way.counted(sheet)
            checker = PairsChecker(way)
            wrong = [[], picks[::-1], picks[1:], picks[:-1], picks + [0], picks + picks, [picks[0]] * len(picks),
                     [hand + 1 for hand in picks], [-1], [10 ** 40], picks + [99], list(range(way.hands))]
            for other in wrong:
                if other != picks:
                    self.assert_wrong((many, shown, other), sheet, checker)

    def test_picks_by_other_lots_or_seats(self):
        sheet = [((), 4)]
        for lots in itertools.permutations(range(3)):
            paper = Pairs(3, 2, list(lots)).counted(sheet)
            self.assertIs(CHECKER.right(sheet, paper), paper[2] == [0, 1])
        for seats in (1, 3, 4):
            self.assert_wrong(Pairs(3, seats).counted(SHEET))

    def test_picks_go_by_strengths_not_by_leads(self):
        picks = picks_from(strengths_by(leads_by(SHEET, 3)), 2, [0, 1, 2])
        self.assertEqual(WAY.counted(SHEET)[2], picks)

    def test_one_hand(self):
        checker = PairsChecker(Pairs(1, 1))
        self.assertIs(checker.right([((1,), 3)], ([[0]], [], [0])), True)
        for wrong in (([[1]], [], [0]), ([[0]], [(0, 0, 0, [0, 0], 1)], [0]), ([[0]], [], []), ([[0]], [], [1])):
            self.assert_wrong(wrong, [((1,), 3)], checker)


if __name__ == "__main__":
    unittest.main()
