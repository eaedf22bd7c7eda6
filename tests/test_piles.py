import copy
import itertools
import random
import unittest

from pollproof.piles import along, begin, kept_by, table, tallies
from pollproof.sheets import ballots_in, changed
from things import House, all_slips, shares_by, some_sheet, some_slip, tallies_by, told_fraction

NOUGHT, HALF, ONE = (0, 1), (1, 2), (1, 1)
SLIP = [((3, 4), 1)]


def told_all(rows):
    return [[told_fraction(value) for value in row] for row in rows]


def some_deeds(dice, hands, most_seats=6):
    deeds = [(dice.choice(["seat", "out"]), hand) for hand in dice.sample(range(hands), dice.randint(0, hands))]
    while len([deed for deed in deeds if deed[0] == "seat"]) > most_seats:
        deeds.pop()
    return deeds


def state_along(sheet, hands, quota, deeds):
    """The state and the standing hands behind some deeds."""
    state, standing = begin(sheet, hands), 2 ** hands - 1
    for word, hand in deeds:
        if word == "seat":
            state = kept_by(sheet, state, standing, hand, quota)
        standing -= 2 ** hand
    return state, standing


class Shares(House):
    def test_the_start(self):
        sheet = [((), 2), ((1, 2), 3)]
        self.assertEqual(begin(sheet, 2), [(ONE, [NOUGHT, NOUGHT]), (ONE, [NOUGHT, NOUGHT])])
        self.assertEqual(begin([((), 1)], 12), [(ONE, [NOUGHT] * 12)])
        self.assertEqual(begin([], 3), [])

    def test_the_documents_slip(self):
        state = begin(SLIP, 3)
        for standing, row in [
            (7, [HALF, HALF, NOUGHT, NOUGHT]), (6, [NOUGHT, ONE, NOUGHT, NOUGHT]), (5, [ONE, NOUGHT, NOUGHT, NOUGHT]),
            (3, [HALF, HALF, NOUGHT, NOUGHT]), (4, [NOUGHT, NOUGHT, ONE, NOUGHT]), (0, [NOUGHT, NOUGHT, NOUGHT, ONE]),
        ]:
            self.assertEqual(table(SLIP, state, standing), [row])

    def test_empty_ballots_are_spent_from_the_start(self):
        for standing in range(8):
            self.assertEqual(table([((), 5)], begin([((), 5)], 3), standing), [[NOUGHT, NOUGHT, NOUGHT, ONE]])

    def test_even_parts(self):
        for many in range(1, 13):
            sheet = [((2 ** many - 1,), 1)]
            row = table(sheet, begin(sheet, 12), 4095)[0]
            self.assertEqual(row, [(1, many)] * many + [NOUGHT] * (13 - many))


class Keeping(House):
    def test_above_the_quota(self):
        sheet = [((1, 2), 8), ((2,), 1)]
        self.assertEqual(kept_by(sheet, begin(sheet, 2), 3, 0, 6),
                         [((1, 4), [(3, 4), NOUGHT]), (ONE, [NOUGHT, NOUGHT])])

    def test_just_the_quota_and_below_it(self):
        sheet = [((1, 2), 8), ((2,), 1)]
        for quota in (8, 9, 100):
            self.assertEqual(kept_by(sheet, begin(sheet, 2), 3, 0, quota),
                             [(NOUGHT, [ONE, NOUGHT]), (ONE, [NOUGHT, NOUGHT])])

    def test_parts_of_shares(self):
        sheet = [((3, 4), 6), ((1,), 1)]
        self.assertEqual(kept_by(sheet, begin(sheet, 3), 7, 0, 2),
                         [((3, 4), [(1, 4), NOUGHT, NOUGHT]), (HALF, [HALF, NOUGHT, NOUGHT])])
        self.assertEqual(kept_by(sheet, begin(sheet, 3), 7, 1, 3),
                         [(HALF, [NOUGHT, HALF, NOUGHT]), (ONE, [NOUGHT, NOUGHT, NOUGHT])])

    def test_a_hand_where_nothing_lies(self):
        sheet = [((1, 2), 8)]
        for quota in (1, 5):
            self.assertEqual(kept_by(sheet, begin(sheet, 3), 7, 2, quota), begin(sheet, 3))
        self.assertEqual(kept_by([], [], 7, 2, 1), [])

    def test_what_was_kept_stays(self):
        sheet = [((1, 2, 4), 8)]
        first = kept_by(sheet, begin(sheet, 3), 7, 0, 2)
        self.assertEqual(first, [((3, 4), [(1, 4), NOUGHT, NOUGHT])])
        second = kept_by(sheet, first, 6, 1, 2)
        self.assertEqual(second, [(HALF, [(1, 4), (1, 4), NOUGHT])])
        self.assertEqual(table(sheet, second, 4), [[(1, 4), (1, 4), HALF, NOUGHT]])
        self.assertEqual(table(sheet, second, 0), [[(1, 4), (1, 4), NOUGHT, HALF]])

    def test_the_hand_keeps_the_quota_or_its_tally(self):
        dice = random.Random(44)
        for _ in range(120):
            hands = dice.randint(1, 5)
            sheet, quota = some_sheet(dice, hands, 8, 30), dice.randint(1, 60)
            deeds = some_deeds(dice, hands)[:-1]
            state, standing = state_along(sheet, hands, quota, deeds)
            hand = dice.choice([hand for hand in range(hands) if standing >> hand & 1])
            tally = tallies_by(sheet, hands, quota, deeds)[hand]
            behind, left = state_along(sheet, hands, quota, deeds + [("seat", hand)])
            sums = tallies(sheet, table(sheet, behind, left), hands)
            self.assertEqual(sums[hand], told_fraction(min(tally, quota)))

    def test_nothing_handed_in_is_changed_and_all_lists_are_new(self):
        sheet = [((1, 2), 8), ((2,), 3), ((), 1)]
        state = kept_by(sheet, begin(sheet, 2), 3, 0, 2)
        kept = copy.deepcopy((sheet, state))
        rows = table(sheet, state, 2)
        sums = tallies(sheet, rows, 2)
        behind = kept_by(sheet, state, 2, 1, 2)
        wanted = copy.deepcopy((rows, sums, behind))
        for one in rows:
            one[0] = (9, 1)
        sums.append(7)
        for one in behind:
            one[1][0] = (9, 1)
        self.assertEqual((sheet, state), kept)
        rows = table(sheet, state, 2)
        self.assertEqual((rows, tallies(sheet, rows, 2), kept_by(sheet, state, 2, 1, 2)), wanted)
        first = begin(sheet, 2)
        first[0][1][0] = (9, 1)
        self.assertEqual((first[1], begin(sheet, 2)[0]), ((ONE, [NOUGHT, NOUGHT]), (ONE, [NOUGHT, NOUGHT])))


class Tables(House):
    def test_of_no_lines(self):
        self.assertEqual(table([], [], 7), [])
        for hands in (1, 3, 12):
            self.assertEqual(tallies([], [], hands), [NOUGHT] * (hands + 1))
            self.assertEqual(along([], hands, 1, []), [NOUGHT] * (hands + 1))
            self.assertEqual(along([], hands, 1, [("seat", 0)]), [NOUGHT] * (hands + 1))

    def test_tallies_weigh_by_the_numbers_of_lines(self):
        sheet = [((), 2), ((1,), 3), ((3,), 5)]
        rows = table(sheet, begin(sheet, 2), 3)
        self.assertEqual(tallies(sheet, rows, 2), [(11, 2), (5, 2), (2, 1)])
        self.assertEqual(tallies(sheet, [[(1, 3), (2, 3), NOUGHT]] * 3, 2), [(10, 3), (20, 3), NOUGHT])
        self.assertEqual(tallies([((1,), 10 ** 12)], [[ONE, NOUGHT]], 1), [(10 ** 12, 1), NOUGHT])

    def test_shares_add_up_to_one_and_tallies_to_all_ballots(self):
        dice = random.Random(45)
        for _ in range(150):
            hands = dice.randint(1, 7)
            sheet, quota = some_sheet(dice, hands, 10, 1000), dice.randint(1, 2000)
            deeds = some_deeds(dice, hands)
            state, standing = state_along(sheet, hands, quota, deeds)
            rows = table(sheet, state, standing)
            wanted = shares_by(sheet, hands, quota, deeds)
            self.assertEqual(rows, told_all(wanted))
            self.assertTrue(all(sum(row) == 1 for row in wanted))
            self.assertEqual(tallies(sheet, rows, hands), told_all([tallies_by(sheet, hands, quota, deeds)])[0])
            self.assertEqual(sum(tallies_by(sheet, hands, quota, deeds)), ballots_in(sheet))
            for (free, kept), row in zip(state, wanted):
                self.assertEqual([fraction for hand, fraction in enumerate(kept) if standing >> hand & 1],
                                 [NOUGHT] * bin(standing).count("1"))


class Along(House):
    def test_no_deeds(self):
        sheet = [((1, 2), 4), ((2, 1), 3), ((4, 2), 2)]
        for quota in (1, 5, 100):
            self.assertEqual(along(sheet, 3, quota, []), [(4, 1), (3, 1), (2, 1), NOUGHT])

    def test_known_ones(self):
        sheet = [((1, 2), 4), ((2, 1), 3), ((4, 2), 2)]
        for quota, deeds, wanted in [
            (5, [("out", 2)], [4, 5, 0, 0]), (5, [("out", 2), ("seat", 1)], [4, 5, 0, 0]),
            (5, [("out", 2), ("out", 0)], [0, 9, 0, 0]), (5, [("out", 0), ("out", 1), ("out", 2)], [0, 0, 0, 9]),
            (2, [("seat", 0)], [2, 5, 2, 0]), (2, [("seat", 0), ("seat", 1)], [2, 2, 2, 3]),
            (2, [("seat", 0), ("out", 1)], [2, 0, 2, 5]), (1, [("seat", 1), ("seat", 0)], [1, 1, 2, 5]),
            (100, [("seat", 2), ("seat", 0)], [4, 3, 2, 0]),
        ]:
            with self.subTest(deeds=deeds):
                self.assertEqual(along(sheet, 3, quota, deeds), [(value, 1) for value in wanted])

    def test_deeds_that_no_count_would_come_to(self):
        for slip in all_slips(3):
            sheet = [(slip, 7), ((1, 2, 4), 5)] if slip < (1, 2, 4) else [((1, 2), 5), (slip, 7)]
            for many in range(4):
                for order in itertools.permutations(range(3), many):
                    for words in itertools.product(["seat", "out"], repeat=many):
                        deeds = list(zip(words, order))
                        wanted = told_all([tallies_by(sheet, 3, 3, deeds)])[0]
                        self.assertEqual(along(sheet, 3, 3, deeds), wanted)

    def test_twelve_hands_six_seats(self):
        dice = random.Random(46)
        for _ in range(5):
            sheet = some_sheet(dice, 12, 60, 10 ** 9)
            quota = ballots_in(sheet) // 30
            deeds = some_deeds(dice, 12)
            kept = (list(sheet), list(deeds))
            self.assertEqual(along(sheet, 12, quota, deeds), told_all([tallies_by(sheet, 12, quota, deeds)])[0])
            self.assertEqual((sheet, deeds), kept)

    def test_two_sheets_that_differ_by_some_ballots(self):
        dice = random.Random(47)
        for _ in range(300):
            hands = dice.randint(1, 5)
            sheet = some_sheet(dice, hands, 6, 12)
            ballots = [slip for slip, number in sheet for _ in range(number)]
            taken = dice.sample(ballots, dice.randint(0, len(ballots)))
            change = [(old, new, 1) for old, new in zip(taken, [some_slip(dice, hands) for _ in taken]) if old != new]
            other, quota, deeds = changed(sheet, change), dice.randint(1, 20), some_deeds(dice, hands)
            one, two = [tallies_by(each, hands, quota, deeds) for each in (sheet, other)]
            self.assertEqual(along(other, hands, quota, deeds), told_all([two])[0])
            apart_by = [a - b for a, b in zip(one, two)]
            self.assertLessEqual(max(abs(value) for value in apart_by), len(change))
            self.assertLessEqual(max(apart_by) - min(apart_by), 2 * len(change))


if __name__ == "__main__":
    unittest.main()
