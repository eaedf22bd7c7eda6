import random
import unittest

from pollproof.sheets import ballots_in, changed, number_of
from pollproof.shifts import free_for, shift
from things import House, all_slips, sheet_in, slip_by, some_sheet

# By the sheet's order: () a a>b b b>a ab c bc
SHEET = sheet_in("1 , 2 a, 3 a>b, 4 b, 5 b>a, 6 ab, 7 c, 8 bc")


def taken_by(sheet, x, y, slip):
    """The slips of single ballots in the order in which a shift takes them."""
    def turn(old):
        first = {hand for hand in range(12) if old and old[0] >> hand & 1}
        return 0 if first == {x} else 2 if y in first else 1

    lines = [line for line in sheet if line[0] != slip]
    return [old for group in (0, 1, 2) for old, number in lines if turn(old) == group for _ in range(number)]


def rows_by(slips, slip):
    rows = []
    for old in slips:
        if rows and rows[-1][0] == old:
            rows[-1] = (old, slip, rows[-1][2] + 1)
        else:
            rows.append((old, slip, 1))
    return rows


class Shifts(House):
    def test_free_for(self):
        self.assertEqual(free_for([], (1,)), 0)
        self.assertEqual(free_for(SHEET, ()), 35)
        self.assertEqual(free_for(SHEET, (2,)), 32)
        self.assertEqual(free_for(SHEET, (2, 4)), 36)
        self.assertEqual(free_for([((1,), 10 ** 12)], (1,)), 0)
        self.assertEqual(free_for([((1,), 10 ** 12)], (1, 2)), 10 ** 12)

    def test_the_three_groups_and_their_order(self):
        b = slip_by("b")
        order = ["a", "a>b", "", "c", "b>a", "ab", "bc"]
        whole = [(slip_by(old), b, number_of(SHEET, slip_by(old))) for old in order]
        self.assertEqual(shift(SHEET, 0, 1, b, 32), whole)
        self.assertEqual(free_for(SHEET, b), 32)
        self.assertEqual(shift(SHEET, 2, 1, b, 8), [(slip_by("c"), b, 7), ((), b, 1)])
        self.assertEqual(shift(SHEET, 2, 1, b, 14), [(slip_by("c"), b, 7), ((), b, 1), (slip_by("a"), b, 2),
                                                    (slip_by("a>b"), b, 3), (slip_by("b>a"), b, 1)])

    def test_a_sheet_that_has_the_slip_itself(self):
        slip = slip_by("b>a")
        self.assertEqual(shift(SHEET, 0, 1, slip, 14), [
            (slip_by("a"), slip, 2), (slip_by("a>b"), slip, 3), ((), slip, 1), (slip_by("c"), slip, 7),
            (slip_by("b"), slip, 1)])

    def test_a_number_that_ends_within_a_slip(self):
        b = slip_by("b")
        for many, rows in [
            (0, []), (1, [("a", 1)]), (2, [("a", 2)]), (3, [("a", 2), ("a>b", 1)]), (5, [("a", 2), ("a>b", 3)]),
            (6, [("a", 2), ("a>b", 3), ("", 1)]), (7, [("a", 2), ("a>b", 3), ("", 1), ("c", 1)]),
        ]:
            self.assertEqual(shift(SHEET, 0, 1, b, many), [(slip_by(old), b, number) for old, number in rows])

    def test_no_ballots(self):
        self.assertEqual(shift([], 0, 1, (2,), 0), [])
        self.assertEqual(shift([((2,), 5)], 0, 1, (2,), 0), [])

    def test_a_first_tier_with_x_and_others(self):
        sheet = sheet_in("2 ac, 3 abc, 1 a")
        self.assertEqual(shift(sheet, 0, 1, (2,), 6), [((1,), (2,), 1), ((5,), (2,), 2), ((7,), (2,), 3)])

    def test_ballot_by_ballot(self):
        dice = random.Random(71)
        for _ in range(150):
            hands = dice.randint(2, 4)
            sheet = some_sheet(dice, hands, 8, 4)
            kept = list(sheet)
            x, y = dice.sample(range(hands), 2)
            lifting = [slip for slip in all_slips(hands) if slip and slip[0] >> y & 1 and not slip[0] >> x & 1]
            slip = dice.choice(lifting)
            single = taken_by(sheet, x, y, slip)
            self.assertEqual(free_for(sheet, slip), len(single))
            for many in range(len(single) + 1):
                change = shift(sheet, x, y, slip, many)
                self.assertEqual(change, rows_by(single[:many], slip))
                behind = changed(sheet, change)
                self.assertEqual(ballots_in(behind), ballots_in(sheet))
                self.assertEqual(number_of(behind, slip), number_of(sheet, slip) + many)
            self.assertEqual(sheet, kept)

    def test_great_numbers(self):
        sheet = [((), 10 ** 12 - 5), ((1,), 5)]
        self.assertEqual(shift(sheet, 0, 1, (2,), 10 ** 11), [((1,), (2,), 5), ((), (2,), 10 ** 11 - 5)])


if __name__ == "__main__":
    unittest.main()
