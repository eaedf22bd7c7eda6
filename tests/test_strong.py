import copy
import itertools
import random
import unittest

from pollproof.strong import cut_between, leads_of, overs, strength, way_between
from things import House, all_slips, leads_by, sheet_in, some_sheet, strengths_by


def some_leads(dice, hands, most):
    leads = [[0] * hands for _ in range(hands)]
    for x, y in itertools.combinations(range(hands), 2):
        leads[x][y] = dice.randint(-most, most)
        leads[y][x] = -leads[x][y]
    return leads


def many_leads():
    dice = random.Random(53)
    for hands in range(1, 6):
        for most in (0, 1, 2, 5, 10 ** 50):
            for _ in range(12):
                yield some_leads(dice, hands, most)


class Overs(House):
    def test_known_ones(self):
        sheet = sheet_in("4 a>b, 3 b>ac, 2 c, 1 ")
        self.assertEqual(overs(sheet, 3), [[0, 4, 4], [3, 0, 7], [2, 2, 0]])
        self.assertEqual(overs([], 1), [[0]])
        self.assertEqual(overs(sheet_in("5 a"), 1), [[0]])
        self.assertEqual(overs([], 12), [[0] * 12 for _ in range(12)])
        self.assertEqual(overs([((2,), 10 ** 12)], 2), [[0, 0], [10 ** 12, 0]])

    def test_every_slip(self):
        for hands in (1, 2, 3, 4):
            for slip in all_slips(hands):
                sheet = [(slip, 3)]
                told, leads = overs(sheet, hands), leads_by(sheet, hands)
                for x, y in itertools.product(range(hands), range(hands)):
                    self.assertEqual(told[x][y], max(0, leads[x][y]))

    def test_ahead_behind_and_level_come_to_all(self):
        dice = random.Random(51)
        for hands in range(1, 13):
            sheet = some_sheet(dice, hands, 12, 10 ** 10)
            kept = list(sheet)
            told = overs(sheet, hands)
            self.assertEqual(sheet, kept)
            for x, y in itertools.permutations(range(hands), 2):
                level = sum(number for slip, number in sheet
                            if [t >> x & 1 for t in slip] == [t >> y & 1 for t in slip])
                self.assertEqual(told[x][y] + told[y][x] + level, sum(number for _, number in sheet))

    def test_rows_are_their_own(self):
        told = overs([], 3)
        told[0][1] = 7
        self.assertEqual(told[1:], [[0, 0, 0], [0, 0, 0]])
        self.assertEqual(overs([], 3)[0], [0, 0, 0])


class Leads(House):
    def test_known_ones(self):
        many = [[0, 4, 4], [3, 0, 7], [2, 2, 0]]
        self.assertEqual(leads_of(many), [[0, 1, 2], [-1, 0, 5], [-2, -5, 0]])
        self.assertEqual(many, [[0, 4, 4], [3, 0, 7], [2, 2, 0]])
        self.assertEqual(leads_of([[0]]), [[0]])

    def test_of_sheets(self):
        dice = random.Random(52)
        for hands in range(1, 13):
            sheet = some_sheet(dice, hands, 10, 100)
            self.assertEqual(leads_of(overs(sheet, hands)), leads_by(sheet, hands))


class Strengths(House):
    def test_known_ones(self):
        self.assertEqual(strength([[0]]), [[0]])
        self.assertEqual(strength([[0, 5], [-5, 0]]), [[0, 5], [-5, 0]])
        self.assertEqual(strength([[0, 5, -7], [-5, 0, 3], [7, -3, 0]]), [[0, 5, 3], [3, 0, 3], [7, 5, 0]])

    def test_leads_below_nought_all_along(self):
        leads = [[0, -1, -4], [1, 0, -2], [4, 2, 0]]
        self.assertEqual(strength(leads), [[0, -1, -2], [1, 0, -2], [4, 2, 0]])

    def test_against_all_ways_one_by_one(self):
        for leads in many_leads():
            kept = copy.deepcopy(leads)
            self.assertEqual(strength(leads), strengths_by(leads))
            self.assertEqual(leads, kept)

    def test_told_lists_are_new_ones(self):
        leads = [[0, 5], [-5, 0]]
        told = strength(leads)
        told[0][1] = 77
        self.assertEqual((leads, strength(leads)), ([[0, 5], [-5, 0]], [[0, 5], [-5, 0]]))
        many = [[0, 2], [1, 0]]
        leads_of(many)[0][1] = 9
        self.assertEqual(many, [[0, 2], [1, 0]])


class Showing(House):
    def assert_shown(self, leads, x, y, strong):
        hands = len(leads)
        way = way_between(leads, x, y)
        self.assertIs(type(way), list)
        self.assertEqual((way[0], way[-1], len(set(way))), (x, y, len(way)))
        self.assertTrue(len(way) > 1 and set(way) <= set(range(hands)))
        self.assertEqual(min(leads[a][b] for a, b in zip(way, way[1:])), strong)
        cut = cut_between(leads, x, y)
        self.assertIn(cut, range(2 ** hands))
        self.assertEqual((cut >> x & 1, cut >> y & 1), (1, 0))
        inside = [hand for hand in range(hands) if cut >> hand & 1]
        self.assertLessEqual(max(leads[a][b] for a in inside for b in range(hands) if b not in inside), strong)

    def test_small_ones(self):
        for leads in many_leads():
            told = strengths_by(leads)
            for x, y in itertools.permutations(range(len(leads)), 2):
                self.assert_shown(leads, x, y, told[x][y])

    def test_up_to_twelve_hands(self):
        dice = random.Random(54)
        for hands in range(6, 13):
            for most in (1, 3, 10 ** 12):
                leads = some_leads(dice, hands, most)
                kept = copy.deepcopy(leads)
                told = strength(leads)
                for x, y in itertools.permutations(range(hands), 2):
                    self.assert_shown(leads, x, y, told[x][y])
                self.assertEqual(leads, kept)

    def test_long_ways(self):
        hands = 12
        leads = [[0] * hands for _ in range(hands)]
        for x, y in itertools.combinations(range(hands), 2):
            leads[x][y] = 100 - x if y == x + 1 else -1
            leads[y][x] = -leads[x][y]
        self.assertEqual(way_between(leads, 0, 11), list(range(12)))
        self.assertEqual(strength(leads)[0][11], 90)
        self.assertEqual(cut_between(leads, 0, 11), 2047)

    def test_told_ways_are_new_ones(self):
        leads = [[0, 5], [-5, 0]]
        way_between(leads, 0, 1).append(7)
        self.assertEqual(way_between(leads, 0, 1), [0, 1])


if __name__ == "__main__":
    unittest.main()
