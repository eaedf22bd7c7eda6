import itertools
import random
import unittest
from collections import Counter

from pollproof.errors import NoChange, NoSheet
from pollproof.sheets import apart, ballots_in, changed, joined, number_of, sheet_of
from things import NO_WHOLES, House, all_sheets, all_slips, some_sheet, some_slip

MOST = 10 ** 9
SHEET = [((), 2), ((1,), 5), ((1, 2), 3), ((3,), 1)]


def distance(one, other):
    """The fewest single changes from one sheet to the other, by steps of one ballot each."""
    steps, reached, slips = 0, {tuple(one)}, {slip for slip, _ in one + other}
    while tuple(other) not in reached:
        steps += 1
        reached = {
            tuple(sorted((Counter(dict(sheet)) - Counter([old]) + Counter([new])).items()))
            for sheet in reached for old, _ in sheet for new in slips
        }
    return steps


class SheetOf(House):
    def test_no_lines(self):
        self.assertEqual(sheet_of([]), [])

    def test_alike_slips_are_put_together(self):
        self.assertEqual(sheet_of([((1,), 2), ((2,), 3), ((1,), 4)]), [((1,), 6), ((2,), 3)])
        self.assertEqual(sheet_of([((), 1), ((), 1), ((), 1)]), [((), 3)])

    def test_sums_above_the_bound(self):
        self.assertEqual(sheet_of([((1,), MOST), ((1,), MOST), ((), 1)]), [((), 1), ((1,), 2 * MOST)])
        self.assertEqual(sheet_of([((1, 2), MOST)] * 300), [((1, 2), 300 * MOST)])

    def test_the_order_of_slips(self):
        rising = [(), (1,), (1, 2), (1, 2, 4), (1, 4), (2,), (2, 1), (3,), (3, 4), (4,), (10, 1), (2048,)]
        lines = [(slip, place + 1) for place, slip in enumerate(rising)]
        dice = random.Random(4)
        for _ in range(30):
            turned = dice.sample(lines, len(lines))
            self.assertEqual(sheet_of(turned), lines)

    def test_any_order_of_lines(self):
        lines = [((2,), 1), ((), 2), ((2, 1), 3), ((2,), 4), ((1,), MOST)]
        for turned in itertools.permutations(lines):
            self.assertEqual(sheet_of(list(turned)), [((), 2), ((1,), MOST), ((2,), 5), ((2, 1), 3)])

    def test_numbers_refused_at_any_place(self):
        for number in NO_WHOLES + [0, -1, -MOST, MOST + 1, 2 * MOST, 10 ** 59]:
            for place in range(3):
                lines = [((1,), 1), ((1,), MOST), ((2,), 3)]
                lines[place] = (lines[place][0], number)
                with self.subTest(number=number, place=place):
                    self.refuses(NoSheet, sheet_of, lines)
            self.refuses(NoSheet, sheet_of, [((), number)])

    def test_numbers_at_the_edges_are_taken(self):
        self.assertEqual(sheet_of([((1,), 1), ((2,), MOST)]), [((1,), 1), ((2,), MOST)])

    def test_the_list_is_a_new_one(self):
        lines = [((2,), 1), ((1,), 1)]
        told = sheet_of(lines)
        told.append(7)
        self.assertEqual(lines, [((2,), 1), ((1,), 1)])
        self.assertEqual(sheet_of(lines), [((1,), 1), ((2,), 1)])
        sheet = sheet_of(lines)
        self.assertIsNot(sheet_of(sheet), sheet)


class Joined(House):
    def test_known_ones(self):
        self.assertEqual(joined([]), [])
        self.assertEqual(joined([[]]), [])
        self.assertEqual(joined([[], [], []]), [])
        self.assertEqual(joined([SHEET]), SHEET)
        self.assertEqual(joined([SHEET, [], [((1,), 4), ((2,), 1)]]),
                         [((), 2), ((1,), 9), ((1, 2), 3), ((2,), 1), ((3,), 1)])

    def test_numbers_above_the_bound(self):
        great = [((), 10 ** 11), ((1,), 5 * MOST)]
        self.assertEqual(joined([great, great]), [((), 2 * 10 ** 11), ((1,), 10 * MOST)])

    def test_however_ballots_are_parted(self):
        dice = random.Random(27)
        for _ in range(60):
            lines = [(some_slip(dice, 3), dice.randint(1, 9)) for _ in range(dice.randint(0, 20))]
            whole = sheet_of(lines)
            pieces = [(slip, part) for slip, number in lines for part in [1] * number]
            dice.shuffle(pieces)
            cuts = sorted(dice.randint(0, len(pieces)) for _ in range(3))
            parts = [pieces[a:b] for a, b in zip([0] + cuts, cuts + [len(pieces)])]
            self.assertEqual(joined([sheet_of(part) for part in parts]), whole)
            self.assertEqual(joined([joined([sheet_of(part)]) for part in reversed(parts)]), whole)

    def test_nothing_is_changed_and_the_list_is_new(self):
        sheets = [list(SHEET), [((1,), 4)]]
        told = joined(sheets)
        told.clear()
        self.assertEqual(sheets, [SHEET, [((1,), 4)]])
        one = [list(SHEET)]
        joined(one).append(9)
        self.assertEqual(one, [SHEET])


class Numbers(House):
    def test_ballots_in(self):
        self.assertEqual(ballots_in([]), 0)
        self.assertEqual(ballots_in(SHEET), 11)
        self.assertEqual(ballots_in([((), 10 ** 12)]), 10 ** 12)

    def test_number_of(self):
        self.assertEqual([number_of(SHEET, slip) for slip in [(), (1,), (1, 2), (3,)]], [2, 5, 3, 1])
        self.assertEqual([number_of(SHEET, slip) for slip in [(2,), (2, 1), (1, 2, 4), (3, 4)]], [0, 0, 0, 0])
        self.assertEqual(number_of([], ()), 0)
        self.assertEqual(number_of([((), 3), ((2,), 10 ** 12)], (2,)), 10 ** 12)

    def test_they_agree(self):
        dice = random.Random(5)
        for _ in range(50):
            sheet = some_sheet(dice, 4, 20, 10 ** 10)
            self.assertEqual(ballots_in(sheet), sum(number_of(sheet, slip) for slip, _ in sheet))


class Changed(House):
    def test_no_rows(self):
        for sheet in ([], SHEET):
            told = changed(sheet, [])
            self.assertEqual(told, sheet)
            self.assertIsNot(told, sheet)

    def test_known_ones(self):
        for change, wanted in [
            ([((1,), (2,), 2)], [((), 2), ((1,), 3), ((1, 2), 3), ((2,), 2), ((3,), 1)]),
            ([((1,), (), 5)], [((), 7), ((1, 2), 3), ((3,), 1)]),
            ([((3,), (1,), 1), ((), (1,), 2)], [((1,), 8), ((1, 2), 3)]),
            ([((1,), (2,), 2), ((1,), (4,), 3)], [((), 2), ((1, 2), 3), ((2,), 2), ((3,), 1), ((4,), 3)]),
            ([((1,), (2,), 1), ((1,), (2,), 1)], [((), 2), ((1,), 3), ((1, 2), 3), ((2,), 2), ((3,), 1)]),
            ([((1,), (3,), 5), ((3,), (1,), 1)], [((), 2), ((1,), 1), ((1, 2), 3), ((3,), 5)]),
            ([((3,), (1,), 1), ((1,), (3,), 1)], SHEET),
        ]:
            with self.subTest(change=change):
                self.assertEqual(changed(SHEET, change), wanted)
                self.assertEqual(changed(SHEET, change[::-1]), wanted)

    def test_great_numbers(self):
        self.assertEqual(changed([((), 10 ** 12)], [((), (1,), 10 ** 11)]), [((), 9 * 10 ** 11), ((1,), 10 ** 11)])
        self.assertEqual(changed([((), 10 ** 12)], [((), (1,), 10 ** 12)]), [((1,), 10 ** 12)])

    def test_row_numbers_refused(self):
        for number in NO_WHOLES + [0, -1, -10 ** 12]:
            with self.subTest(number=number):
                self.refuses(NoChange, changed, SHEET, [((1,), (2,), number)])
                self.refuses(NoChange, changed, SHEET, [((1,), (2,), 1), ((1, 2), (2,), number)])
                self.refuses(NoChange, changed, SHEET, [((1, 2), (2,), number), ((1,), (2,), 1)])

    def test_alike_slips_refused(self):
        for slip in [(), (1,), (1, 2), (7,)]:
            self.refuses(NoChange, changed, SHEET, [(slip, slip, 1)])
            self.refuses(NoChange, changed, SHEET, [((3,), (1,), 1), (slip, slip, 1)])

    def test_more_than_there_are_refused(self):
        for change in [
            [((1,), (2,), 6)], [((2,), (1,), 1)], [((), (1,), 3)],
            [((1,), (2,), 3), ((1,), (), 3)],
            [((1,), (2,), 5), ((1,), (4,), 1)],
            [((3,), (1,), 1), ((3,), (2,), 1)],
        ]:
            with self.subTest(change=change):
                self.refuses(NoChange, changed, SHEET, change)
        self.refuses(NoChange, changed, [], [((), (1,), 1)])

    def test_what_the_same_change_puts_is_not_there_to_be_taken(self):
        self.refuses(NoChange, changed, SHEET, [((1,), (2,), 2), ((2,), (4,), 1)])
        self.refuses(NoChange, changed, SHEET, [((2,), (4,), 1), ((1,), (2,), 2)])
        self.refuses(NoChange, changed, SHEET, [((1,), (3,), 2), ((3,), (1,), 2)])
        self.refuses(NoChange, changed, SHEET, [((3,), (1,), 2), ((1,), (3,), 2)])

    def test_nothing_handed_in_is_changed(self):
        sheet, change = list(SHEET), [((1,), (2,), 2), ((), (1,), 1)]
        changed(sheet, change).append(0)
        self.assertEqual((sheet, change), (SHEET, [((1,), (2,), 2), ((), (1,), 1)]))
        self.refuses(NoChange, changed, sheet, [((1,), (2,), 2), ((7,), (1,), 1)])
        self.assertEqual(sheet, SHEET)

    def test_as_single_ballots_tell(self):
        dice = random.Random(28)
        for _ in range(100):
            sheet = some_sheet(dice, 2, 6, 4)
            ballots = [slip for slip, number in sheet for _ in range(number)]
            taken = dice.sample(ballots, dice.randint(0, len(ballots)))
            rows = [(old, dice.choice([slip for slip in all_slips(2) if slip != old]), 1) for old in taken]
            left = Counter(ballots) - Counter(taken) + Counter(new for _, new, _ in rows)
            self.assertEqual(changed(sheet, rows), sorted(left.items()))


class Apart(House):
    def test_known_ones(self):
        other = [((1,), 2), ((1, 2), 7), ((2,), 2)]
        self.assertEqual(apart(SHEET, other), 2 + 3 + 1)
        self.assertEqual(apart(other, SHEET), 4 + 2)
        self.assertEqual(apart(SHEET, SHEET), 0)
        self.assertEqual(apart(SHEET, []), 11)
        self.assertEqual(apart([], SHEET), 0)
        self.assertEqual(apart([], []), 0)

    def test_sheets_with_unlike_numbers_of_ballots(self):
        self.assertEqual(apart([((1,), 5)], [((1,), 3)]), 2)
        self.assertEqual(apart([((1,), 3)], [((1,), 5)]), 0)
        self.assertEqual(apart([((), 10 ** 12)], [((), 1), ((1,), 10 ** 12)]), 10 ** 12 - 1)

    def test_it_is_the_fewest_changes(self):
        for sheets in (all_sheets(1, 4), all_sheets(2, 2)):
            for one, other in itertools.product(sheets, sheets):
                self.assertEqual(apart(one, other), apart(other, one))
                self.assertEqual(apart(one, other), distance(one, other))

    def test_nothing_is_changed(self):
        one, other = list(SHEET), [((1,), 2)]
        apart(one, other)
        self.assertEqual((one, other), (SHEET, [((1,), 2)]))


if __name__ == "__main__":
    unittest.main()
