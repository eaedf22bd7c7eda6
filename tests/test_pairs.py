import copy
import itertools
import random
import unittest

from pollproof.pairs import Pairs
from pollproof.strong import leads_of, overs, strength
from pollproof.ways import Way
from things import (
    House, leads_by, picks_from, refuses_what_a_way_refuses, sheet_in, some_sheet, some_slip, strengths_by,
)

TURNING = "7 a>b>c, 6 b>c>a, 5 c>a>b"


def some_elections(many=120, most_hands=5):
    dice = random.Random(56)
    for _ in range(many):
        hands = dice.randint(1, most_hands)
        sheet = some_sheet(dice, hands, dice.randint(0, 7), dice.choice([1, 3, 40]))
        yield Pairs(hands, dice.randint(1, hands + 1), dice.sample(range(hands), hands)), sheet


def turned_round(sheet, hands):
    """Each ballot's order turned round, unranked hands being the last tier."""
    lines = {}
    for slip, number in sheet:
        rest = 2 ** hands - 1 - sum(slip)
        tiers = slip + (rest,) if rest else slip
        new = tiers[::-1]
        lines[new] = lines.get(new, 0) + number
    return sorted(lines.items())


def put_ahead(dice, slip, hand, hands):
    """A slip on which a hand is taken out and put at its tier's place or farther ahead."""
    rest = 2 ** hands - 1 - sum(slip)
    tiers = [tier for tier in slip + (rest,) if tier]
    place = next(k for k, tier in enumerate(tiers) if tier >> hand & 1)
    others = [tier & ~(2 ** hand) for tier in tiers]
    kind = dice.choice(["alone", "level"])
    at = dice.randint(0, place)
    if kind == "level" and at < place:
        others[at] |= 2 ** hand
    else:
        others.insert(at, 2 ** hand)
    return tuple(tier for tier in others if tier)


class Making(House):
    def test_like_a_way(self):
        way = Pairs(3, 60, [2, 0, 1])
        self.assertIsInstance(way, Way)
        self.assertEqual((way.hands, way.seats, way.lots), (3, 60, [2, 0, 1]))
        self.assertEqual(Pairs(2, 1).lots, [0, 1])
        refuses_what_a_way_refuses(self, Pairs)


class Beating(House):
    def test_a_round_of_three(self):
        way = Pairs(3, 1)
        sheet = sheet_in(TURNING)
        self.assertEqual(leads_by(sheet, 3), [[0, 6, -4], [-6, 0, 8], [4, -8, 0]])
        beaten = [[way.beats(sheet, x, y) for y in range(3)] for x in range(3)]
        self.assertEqual(beaten, [[False, True, True], [False, False, True], [False, False, False]])
        self.assertEqual(way.unbeaten(sheet), 1)

    def test_against_strengths_reckoned_otherwise(self):
        for way, sheet in some_elections():
            kept = list(sheet)
            told = strengths_by(leads_by(sheet, way.hands))
            free = 0
            for x in range(way.hands):
                beaten = False
                for y in range(way.hands):
                    self.assertIs(way.beats(sheet, x, y), told[x][y] > told[y][x])
                    beaten = beaten or told[y][x] > told[x][y]
                free += 0 if beaten else 2 ** x
            self.assertEqual(way.unbeaten(sheet), free)
            self.assertEqual(sheet, kept)

    def test_never_itself(self):
        for way, sheet in some_elections(40):
            for x in range(way.hands):
                self.assertIs(way.beats(sheet, x, x), False)

    def test_who_beats_one_beats_all_whom_that_one_beats(self):
        for way, sheet in some_elections():
            for x, y, z in itertools.permutations(range(way.hands), 3):
                if way.beats(sheet, x, y) and way.beats(sheet, y, z):
                    self.assertTrue(way.beats(sheet, x, z))

    def test_there_is_always_an_unbeaten_one(self):
        for way, sheet in some_elections(150, 6):
            self.assertGreater(way.unbeaten(sheet), 0)

    def test_the_empty_sheet(self):
        for hands in range(1, 13):
            for sheet in ([], [((), 5)]):
                self.assertEqual(Pairs(hands, 1).unbeaten(sheet), 2 ** hands - 1)


class Picking(House):
    def test_by_lots(self):
        for lots in itertools.permutations(range(4)):
            for seats in range(1, 7):
                paper = Pairs(4, seats, list(lots)).counted([])
                self.assertEqual(paper[2], list(lots)[:seats])
        for lots in itertools.permutations(range(3)):
            paper = Pairs(3, 2, list(lots)).counted(sheet_in("3 ab>c"))
            self.assertEqual(paper[2], [hand for hand in lots if hand != 2])

    def test_who_is_beaten_by_a_picked_one_alone_may_be_picked(self):
        self.assertEqual(Pairs(3, 3, [2, 1, 0]).counted(sheet_in("3 a>bc"))[2], [0, 2, 1])

    def test_strengths_go_over_all_hands_each_time(self):
        dice = random.Random(561)
        seen = 0
        for _ in range(600):
            sheet = some_sheet(dice, 4, 6, 9)
            whole = strengths_by(leads_by(sheet, 4))
            picks = picks_from(whole, 4, [0, 1, 2, 3])
            self.assertEqual(Pairs(4, 4).counted(sheet)[2], picks)
            rest = [hand for hand in range(4) if hand != picks[0]]
            leads = leads_by(sheet, 4)
            less = strengths_by([[leads[x][y] for y in rest] for x in rest])
            seen += [rest[hand] for hand in picks_from(less, 3, [0, 1, 2])] != picks[1:]
        self.assertGreater(seen, 0)

    def test_against_strengths_reckoned_otherwise(self):
        for way, sheet in some_elections():
            wanted = picks_from(strengths_by(leads_by(sheet, way.hands)), way.seats, way.lots)
            self.assertEqual(way.counted(sheet)[2], wanted)
            self.assertEqual(way.outcome(sheet), [int(hand in wanted) for hand in range(way.hands)])
            self.assertEqual(len(wanted), min(way.hands, way.seats))


class Papers(House):
    def test_the_order_and_what_is_shown(self):
        for way, sheet in some_elections(60):
            hands = way.hands
            paper = way.counted(sheet)
            self.assertEqual((type(paper), len(paper), [type(part) for part in paper]), (tuple, 3, [list] * 3))
            many, shown, _ = paper
            self.assertEqual(many, overs(sheet, hands))
            pairs = [(x, y) for x in range(hands) for y in range(hands) if x != y]
            self.assertEqual([row[:2] for row in shown], pairs)
            leads = leads_by(sheet, hands)
            told = strengths_by(leads)
            for x, y, strong, ways, cut in shown:
                self.assertEqual(strong, told[x][y])
                self.assertEqual((ways[0], ways[-1], len(set(ways))), (x, y, len(ways)))
                self.assertEqual(min(leads[a][b] for a, b in zip(ways, ways[1:])), strong)
                inside = [hand for hand in range(hands) if cut >> hand & 1]
                self.assertTrue(x in inside and y not in inside and 0 < cut < 2 ** hands)
                self.assertLessEqual(max(leads[a][b] for a in inside for b in range(hands) if b not in inside), strong)

    def test_one_hand(self):
        self.assertEqual(Pairs(1, 3).counted([((1,), 2)]), ([[0]], [], [0]))
        self.assertEqual(Pairs(1, 3).outcome([]), [1])

    def test_told_by(self):
        way = Pairs(4, 2)
        for picks in ([], [0], [3, 1], [2, 0, 1, 3]):
            self.assertEqual(way.told_by(([], [], picks)), [int(hand in picks) for hand in range(4)])

    def test_told_lists_are_new_ones(self):
        way, sheet = Pairs(3, 2), sheet_in(TURNING)
        first = way.counted(sheet)
        wanted = copy.deepcopy(first)
        first[0][0][1] = 99
        first[1][0][3].append(9)
        first[1].pop()
        first[2].clear()
        way.outcome(sheet).clear()
        self.assertEqual(way.counted(sheet), wanted)
        self.assertEqual(way.lots, [0, 1, 2])
        all_picked = Pairs(3, 3)
        all_picked.counted([])[2].clear()
        self.assertEqual(all_picked.lots, [0, 1, 2])


class Promises(House):
    def test_sets_that_lead_are_picked_first(self):
        seen = 0
        for way, sheet in some_elections(300):
            hands, leads = way.hands, leads_by(sheet, way.hands)
            picks = Pairs(hands, hands, way.lots).counted(sheet)[2]
            for group in range(1, 2 ** hands - 1):
                inside = [hand for hand in range(hands) if group >> hand & 1]
                outside = [hand for hand in range(hands) if not group >> hand & 1]
                if all(leads[x][y] > 0 for x in inside for y in outside):
                    seen += 1
                    self.assertEqual(sorted(picks[:len(inside)]), inside)
        self.assertGreater(seen, 100)

    def test_orders_turned_round(self):
        for way, sheet in some_elections():
            other = turned_round(sheet, way.hands)
            self.assertEqual(leads_by(other, way.hands),
                             [[-lead for lead in row] for row in leads_by(sheet, way.hands)])
            for x, y in itertools.permutations(range(way.hands), 2):
                self.assertEqual(way.beats(other, x, y), way.beats(sheet, y, x))

    def test_a_hand_put_farther_ahead_stays_unbeaten(self):
        dice = random.Random(58)
        for way, sheet in some_elections(200):
            for hand in range(way.hands):
                if way.unbeaten(sheet) >> hand & 1:
                    lines = {}
                    for slip, number in sheet:
                        moved = dice.randint(0, number)
                        new = put_ahead(dice, slip, hand, way.hands)
                        lines[slip] = lines.get(slip, 0) + number - moved
                        lines[new] = lines.get(new, 0) + moved
                    other = sorted(line for line in lines.items() if line[1])
                    self.assertEqual(way.unbeaten(other) >> hand & 1, 1, (sheet, other, hand))

    def test_one_seat_more(self):
        for way, sheet in some_elections():
            papers = [Pairs(way.hands, seats, way.lots).counted(sheet)[2] for seats in range(1, way.hands + 3)]
            for seats, picks in enumerate(papers, start=1):
                self.assertEqual(picks, papers[-1][:seats])
            self.assertEqual(sorted(papers[-1]), list(range(way.hands)))

    def test_twelve_hands(self):
        dice = random.Random(59)
        sheet = [(some_slip(dice, 12), 10 ** 11), ((), 3)]
        way = Pairs(12, 12, dice.sample(range(12), 12))
        told = strength(leads_of(overs(sheet, 12)))
        self.assertEqual(way.counted(sheet)[2], picks_from(told, 12, way.lots))


if __name__ == "__main__":
    unittest.main()
