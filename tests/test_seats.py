import copy
import itertools
import random
import unittest

from pollproof.errors import NoWay
from pollproof.seats import Seats
from pollproof.sheets import ballots_in
from pollproof.ways import Way
from things import (
    House, all_sheets, deeds_by, refuses_what_a_way_refuses, seats_by, shares_by, sheet_in, some_sheet, tallies_by,
    told_fraction,
)

DOCUMENT = [((1, 2), 4), ((2, 1), 3), ((4, 2), 2)]


def whole(numbers):
    return [(number, 1) for number in numbers]


def deeds_of(paper):
    return [deed for _, _, deed in paper]


class Making(House):
    def test_like_a_way(self):
        for seats in range(1, 7):
            way = Seats(3, seats, [2, 0, 1])
            self.assertIsInstance(way, Way)
            self.assertEqual((way.hands, way.seats, way.lots), (3, seats, [2, 0, 1]))
        self.assertEqual(Seats(12, 6).lots, list(range(12)))
        refuses_what_a_way_refuses(self, Seats)

    def test_more_than_six_seats_refused(self):
        for seats in (7, 8, 60):
            self.refuses(NoWay, Seats, 3, seats)
            self.refuses(NoWay, Seats, 12, seats, list(range(12)))

    def test_quota(self):
        for seats, ballots, quota in [(1, 9, 5), (1, 10, 6), (1, 0, 1), (6, 0, 1), (2, 9, 4), (2, 8, 3), (6, 6, 1),
                                      (6, 7, 2), (3, 10 ** 12, 25 * 10 ** 10 + 1)]:
            self.assertEqual(Seats(4, seats).quota(ballots), quota)


class Document(House):
    def test_the_example_whole(self):
        way = Seats(3, 1)
        nought, one = (0, 1), (1, 1)
        self.assertEqual(way.counted(DOCUMENT), [
            ([[one, nought, nought, nought], [nought, one, nought, nought], [nought, nought, one, nought]],
             whole([4, 3, 2, 0]), ("out", 2)),
            ([[one, nought, nought, nought], [nought, one, nought, nought], [nought, one, nought, nought]],
             whole([4, 5, 0, 0]), ("seat", 1)),
            ([[one, nought, nought, nought], [nought, one, nought, nought], [nought, one, nought, nought]],
             whole([4, 5, 0, 0]), ("end", None)),
        ])
        self.assertEqual(way.outcome(DOCUMENT), [0, 1, 0])
        self.assertEqual(way.told_by(way.counted(DOCUMENT)), [0, 1, 0])


class Rules(House):
    def deeds(self, text, hands, seats, lots=None):
        return deeds_of(Seats(hands, seats, lots).counted(sheet_in(text) if text else []))

    def test_rest(self):
        self.assertEqual(self.deeds("3 a", 1, 1), [("rest", None)])
        self.assertEqual(self.deeds("3 a", 2, 2), [("rest", None)])
        self.assertEqual(self.deeds("3 a", 2, 6), [("rest", None)])
        self.assertEqual(self.deeds("3 a, 2 b, 1 c", 3, 2), [("seat", 0), ("out", 2), ("rest", None)])
        self.assertEqual(Seats(3, 2).outcome(sheet_in("3 a, 2 b, 1 c")), [1, 1, 0])

    def test_end(self):
        self.assertEqual(self.deeds("3 a, 1 b", 2, 1), [("seat", 0), ("end", None)])
        self.assertEqual(Seats(2, 1).outcome(sheet_in("3 a, 1 b")), [1, 0])

    def test_just_the_quota_seats(self):
        self.assertEqual(self.deeds("2 a, 1 b", 2, 1), [("seat", 0), ("end", None)])
        self.assertEqual(self.deeds("1 a, 1 b", 2, 1), [("out", 1), ("rest", None)])
        self.assertEqual(Seats(2, 1).outcome(sheet_in("1 a, 1 b")), [1, 0])

    def test_the_greatest_is_seated_first(self):
        self.assertEqual(self.deeds("3 a, 4 b, 1 c", 3, 2)[0], ("seat", 1))
        self.assertEqual(self.deeds("4 a, 3 b, 1 c", 3, 2)[0], ("seat", 0))

    def test_greatest_by_lots(self):
        for lots in itertools.permutations(range(4)):
            first = min((0, 2, 3), key=lots.index)
            self.assertEqual(self.deeds("5 a, 5 c, 5 d", 4, 3, list(lots))[0], ("seat", first))

    def test_least_by_lots(self):
        for lots in itertools.permutations(range(4)):
            last = max((1, 2, 3), key=lots.index)
            self.assertEqual(self.deeds("5 a, 4 b, 4 c, 4 d", 4, 1, list(lots))[0], ("out", last))

    def test_no_ballots(self):
        for text in ("", "7 "):
            self.assertEqual(self.deeds(text, 3, 1), [("out", 2), ("out", 1), ("rest", None)])
            self.assertEqual(self.deeds(text, 3, 1, [2, 0, 1]), [("out", 1), ("out", 0), ("rest", None)])
            self.assertEqual(self.deeds(text, 3, 2, [2, 0, 1]), [("out", 1), ("rest", None)])
        self.assertEqual(Seats(3, 1, [2, 0, 1]).outcome([]), [0, 0, 1])

    def test_empty_ballots_count_for_the_quota(self):
        self.assertEqual(self.deeds("3 a, 2 b", 2, 1), [("seat", 0), ("end", None)])
        self.assertEqual(self.deeds("3 a, 2 b, 1 ", 2, 1), [("out", 1), ("rest", None)])

    def test_surplus_is_handed_on(self):
        paper = Seats(3, 2).counted(sheet_in("8 a>b, 1 b, 3 c"))
        self.assertEqual(paper[0][1:], (whole([8, 1, 3, 0]), ("seat", 0)))
        self.assertEqual(paper[1][1:], (whole([5, 4, 3, 0]), ("out", 2)))
        self.assertEqual(paper[2][1:], (whole([5, 4, 0, 3]), ("rest", None)))
        self.assertEqual(paper[1][0][0], [(5, 8), (3, 8), (0, 1), (0, 1)])

    def test_fewer_hands_than_seats(self):
        for hands in (1, 2, 5):
            for text in ("", "3 a", "1 "):
                self.assertEqual(self.deeds(text, hands, 6), [("rest", None)])
                self.assertEqual(Seats(hands, 6).outcome(sheet_in(text) if text else []), [1] * hands)


class Papers(House):
    def assert_paper(self, sheet, hands, seats, lots=None):
        way = Seats(hands, seats, lots)
        kept = list(sheet)
        paper = way.counted(sheet)
        self.assertEqual(sheet, kept)
        deeds = deeds_by(sheet, hands, seats, lots)
        self.assertEqual(deeds_of(paper), deeds)
        quota = way.quota(ballots_in(sheet))
        for place, (table, tallies, deed) in enumerate(paper):
            shares = shares_by(sheet, hands, quota, deeds[:place])
            self.assertEqual(table, [[told_fraction(share) for share in row] for row in shares])
            sums = tallies_by(sheet, hands, quota, deeds[:place])
            self.assertEqual(tallies, [told_fraction(value) for value in sums])
            self.assert_round(sheet, quota, shares, sums, deeds[:place], deeds)
        outcome = seats_by(sheet, hands, seats, lots)
        self.assertEqual(way.told_by(paper), outcome)
        self.assertEqual(way.outcome(sheet), outcome)
        self.assertEqual(sum(outcome), min(hands, seats))

    def assert_round(self, sheet, quota, shares, sums, before, deeds):
        self.assertTrue(all(sum(row) == 1 for row in shares))
        self.assertEqual(sum(sums), ballots_in(sheet))
        for word, hand in before:
            self.assertEqual(sums[hand], quota if word == "seat" else 0)

    def test_small_sheets_all_of_them(self):
        for hands, ballots in [(1, 3), (2, 3), (3, 2)]:
            for sheet in all_sheets(hands, ballots):
                for seats in (1, 2):
                    self.assert_paper(sheet, hands, seats)
                    self.assert_paper(sheet, hands, seats, list(range(hands))[::-1])

    def test_greater_ones(self):
        dice = random.Random(48)
        for _ in range(60):
            hands = dice.randint(1, 7)
            sheet = some_sheet(dice, hands, dice.randint(0, 12), dice.choice([3, 50, 10 ** 9]))
            self.assert_paper(sheet, hands, dice.randint(1, 6), dice.sample(range(hands), hands))

    def test_twelve_hands(self):
        dice = random.Random(49)
        for seats in (1, 3, 6):
            self.assert_paper(some_sheet(dice, 12, 40, 10 ** 9), 12, seats, dice.sample(range(12), 12))

    def test_told_lists_are_new_ones(self):
        way = Seats(3, 1)
        first = way.counted(DOCUMENT)
        wanted = copy.deepcopy(first)
        first[0][0][0][0] = (9, 1)
        first[0][1].clear()
        self.assertEqual(first[1:], wanted[1:])
        first.pop()
        way.outcome(DOCUMENT).append(8)
        self.assertEqual(way.counted(DOCUMENT), wanted)
        self.assertEqual(way.outcome(DOCUMENT), [0, 1, 0])


def is_solid(slip, group):
    """Whether some first tiers hold just the hands of a group."""
    return any(sum(slip[:many]) == group for many in range(1, len(slip) + 1))


class Groups(House):
    def assert_fair(self, sheet, hands, seats, lots):
        way = Seats(hands, seats, lots)
        outcome, quota = way.outcome(sheet), way.quota(ballots_in(sheet))
        most = 0
        for group in range(1, 2 ** hands):
            solid = sum(number for slip, number in sheet if is_solid(slip, group))
            inside = [hand for hand in range(hands) if group >> hand & 1]
            got = sum(outcome[hand] for hand in inside)
            self.assertGreaterEqual(got, min(solid // quota, len(inside)), (sheet, seats, lots, group))
            most = max(most, solid // quota)
        return most

    def test_groups_with_one_to_three_quotas(self):
        dice = random.Random(410)
        seen = set()
        for _ in range(400):
            hands = dice.randint(2, 6)
            group = dice.sample(range(hands), dice.randint(1, hands))
            slips = []
            for _ in range(6):
                order = dice.sample(group, len(group)) + dice.sample([h for h in range(hands) if h not in group],
                                                                     hands - len(group))
                slips.append(tuple(2 ** hand for hand in order[:dice.randint(len(group), hands)]))
            sheet = {slip: dice.randint(1, 20) for slip in slips}
            sheet.update(some_sheet(dice, hands, 4, 12))
            seats = dice.randint(1, 5)
            seen.add(self.assert_fair(sorted(sheet.items()), hands, seats, dice.sample(range(hands), hands)))
        self.assertTrue({1, 2, 3} <= seen)

    def test_a_group_smaller_than_its_quotas(self):
        sheet = sheet_in("9 a>b, 2 c")
        self.assertEqual(Seats(4, 3).quota(11), 3)
        self.assertEqual(Seats(4, 3).outcome(sheet), [1, 1, 1, 0])
        self.assertGreaterEqual(self.assert_fair(sheet, 4, 3, None), 3)

    def test_level_hands_are_solid_too(self):
        sheet = sheet_in("6 ab>c, 3 d")
        self.assertEqual(Seats(4, 2).quota(9), 4)
        self.assert_fair(sheet, 4, 2, None)


if __name__ == "__main__":
    unittest.main()
