import random
import unittest

from pollproof.boxes import Box
from pollproof.codes import code_of
from pollproof.errors import NoBallot, NoBundle, NoSheet, NoWay, Torn, WrongNumber
from pollproof.seals import seal_of
from things import NO_WHOLES, House, some_slip

LINES = [((2, 1), 5), ((), 3), ((1,), 7), ((), 2)]
SHEET = [((), 5), ((1,), 7), ((2, 1), 5)]
MOST = 10 ** 9


def codes_of(lines, hands=2):
    return [code_of(line, hands) for line in lines]


def put(box, lines):
    codes = codes_of(lines, box.hands)
    return box.take(codes, seal_of(codes))


def box_of(*bundles):
    box = Box(2)
    for lines in bundles:
        put(box, lines)
    return box


def told_of(box):
    """All that a box tells."""
    by_number = [(box.lines_at(k), box.sheet_at(k), box.seal_at(k)) for k in range(box.many())]
    return (box.hands, box.many(), box.sheet(), by_number)


class Making(House):
    def test_hands(self):
        for hands in range(1, 13):
            box = Box(hands)
            self.assertEqual((box.hands, box.many(), box.sheet()), (hands, 0, []))

    def test_refused(self):
        for hands in NO_WHOLES + [0, 13, -1, -12, 10 ** 59]:
            with self.subTest(hands=hands):
                self.refuses(NoWay, Box, hands)


class Taking(House):
    def test_as_they_are(self):
        box = Box(2)
        codes = codes_of(LINES)
        self.assertEqual(box.take(codes, seal_of(codes)), (0, 0))
        self.assertEqual(box.take(codes[::-1], seal_of(codes[::-1])), (1, 0))
        self.assertEqual(box.take([], (0, 0, 0, 0)), (2, 0))
        self.assertEqual(box.many(), 3)
        self.assertEqual([box.lines_at(k) for k in range(3)], [LINES, LINES[::-1], []])
        self.assertEqual(box.sheet(), [((), 10), ((1,), 14), ((2, 1), 10)])
        self.assertEqual(codes, codes_of(LINES))

    def test_one_altered_code(self):
        codes = codes_of(LINES)
        for place in range(len(codes)):
            for code in (0, -1, 7, codes[place] + 1, codes[place] - 13, 10 ** 50):
                box = box_of([((), 1)])
                altered = codes[:place] + [code] + codes[place + 1:]
                self.assertEqual(box.take(altered, seal_of(codes)), (1, place + 1))
                self.assertEqual((box.lines_at(1), box.seal_at(1)), (LINES, seal_of(codes)))

    def test_torn(self):
        box = box_of(LINES)
        before = told_of(box)
        codes = codes_of(LINES)
        altered = [codes[0] + 1, codes[1] + 1] + codes[2:]
        for handed, seal in [(altered, seal_of(codes)), (codes[:-1], seal_of(codes)), (codes + [13], seal_of(codes)),
                             ([], (0, 1, 1, 1)), (codes, (4, 0, 0, 0))]:
            self.refuses(Torn, box.take, handed, seal)
            self.assertEqual(told_of(box), before)
        self.assertEqual(put(box, LINES), (1, 0))

    def test_no_lines_code(self):
        box = box_of(LINES)
        before = told_of(box)
        good = codes_of(LINES)
        for bad in (-1, 0, 1, 168, 169 + 2, 169 + 26, (MOST + 1) * 169, 169 + 12):
            for codes in ([bad], [bad] + good, good + [bad], good[:2] + [bad] + good[2:]):
                with self.subTest(codes=codes):
                    self.refuses(NoBallot, box.take, codes, seal_of(codes))
                    self.assertEqual(told_of(box), before)
        self.assertEqual(put(box, []), (1, 0))

    def test_a_mended_code_that_is_no_lines(self):
        box = Box(2)
        self.refuses(NoBallot, box.take, [872, 507], seal_of([872, 1]))
        self.assertEqual(box.many(), 0)
        # What was altered is never looked at, only what it is mended to.
        self.assertEqual(box.take([872, 1], seal_of([872, 507])), (0, 2))

    def test_torn_comes_ahead_of_no_ballot(self):
        box = Box(2)
        self.refuses(Torn, box.take, [-1, -1, 872], seal_of([0, 0, 872]))
        self.refuses(Torn, box.take, [0], (2, 0, 0, 0))

    def test_codes_are_read_for_the_boxs_hands(self):
        box = Box(3)
        self.assertEqual(put(box, [((4, 3), 2)]), (0, 0))
        self.refuses(NoBallot, box.take, [14], seal_of([14]))
        self.assertEqual(box.lines_at(0), [((4, 3), 2)])


class Telling(House):
    def test_lines_lie_as_they_are(self):
        box = box_of(LINES)
        self.assertEqual(box.lines_at(0), LINES)
        self.assertEqual(box.sheet_at(0), SHEET)
        self.assertEqual(box.seal_at(0), seal_of(codes_of(LINES)))

    def test_great_bundles(self):
        box = box_of([((1,), MOST), ((1,), MOST)], [((1,), MOST)])
        self.assertEqual(box.sheet_at(0), [((1,), 2 * MOST)])
        self.assertEqual(box.sheet(), [((1,), 3 * MOST)])

    def test_the_sheet_hangs_on_no_order(self):
        dice = random.Random(38)
        for _ in range(40):
            lines = [(some_slip(dice, 2), dice.randint(1, 5)) for _ in range(12)]
            sheets = []
            for _ in range(3):
                dice.shuffle(lines)
                cut = dice.randint(0, 12)
                sheets.append(box_of(lines[:cut], lines[cut:]).sheet())
                sheets.append(box_of(lines[cut:], [], lines[:cut]).sheet())
                sheets.append(box_of(lines).sheet_at(0))
            self.assertTrue(all(sheet == sheets[0] for sheet in sheets))

    def test_what_is_told_is_the_askers_own(self):
        box = box_of(LINES, [((1,), 1)])
        before = told_of(box)
        for told in (box.lines_at(0), box.sheet_at(0), box.sheet(), box.lines_at(1), box.sheet_at(1)):
            told.append(((3,), 9))
            told[0] = ((3,), 1)
            self.assertEqual(told_of(box), before)

    def test_what_was_told_stays(self):
        box = box_of(LINES)
        lines, sheet, whole = box.lines_at(0), box.sheet_at(0), box.sheet()
        box.put_right(0, [((3,), 17)])
        put(box, [((1,), 1)])
        self.assertEqual((lines, sheet, whole), (LINES, SHEET, SHEET))

    def test_what_was_handed_in_may_be_changed(self):
        box = Box(2)
        codes = codes_of(LINES)
        box.take(codes, seal_of(codes))
        codes[0] = 0
        codes.clear()
        self.assertEqual(box.lines_at(0), LINES)
        lines = [((3,), 17)]
        box.put_right(0, lines)
        lines.append(((1,), 2))
        lines[0] = ((1,), 1)
        self.assertEqual(box.lines_at(0), [((3,), 17)])

    def test_two_boxes_have_nothing_in_common(self):
        one, other = Box(2), Box(2)
        put(one, LINES)
        self.assertEqual((one.many(), other.many(), other.sheet()), (1, 0, []))


class PuttingRight(House):
    def test_the_same_ballots_otherwise_written(self):
        for lines in ([((), 5), ((1,), 7), ((2, 1), 5)], [((1,), 1), ((), 5), ((1,), 6), ((2, 1), 5)], LINES[::-1]):
            box = box_of([((3,), 2)], LINES)
            self.assertEqual(box.put_right(1, lines), 0)
            self.assertEqual(box.lines_at(1), lines)
            self.assertEqual(box.sheet_at(1), SHEET)
            self.assertEqual(box.seal_at(1), seal_of(codes_of(lines)))
            self.assertEqual(box.lines_at(0), [((3,), 2)])

    def test_other_ballots(self):
        for lines, lacking in [
            ([((3,), 17)], 17), ([((1,), 17)], 10), ([((2, 1), 5), ((), 4), ((1,), 8)], 1),
            ([((), 5), ((1,), 6), ((2, 1), 3), ((2,), 3)], 3), ([((1,), 1)] * 17, 10),
        ]:
            box = box_of(LINES, [((3,), 1)])
            self.assertEqual(box.put_right(0, lines), lacking)
            self.assertEqual(box.lines_at(0), lines)
            self.assertEqual(box.seal_at(0), seal_of(codes_of(lines)))
            self.assertEqual(box.lines_at(1), [((3,), 1)])
            self.assertEqual(box.many(), 2)
            self.assertEqual(box.put_right(0, LINES), lacking)
            self.assertEqual(box.lines_at(0), LINES)

    def test_it_answers_what_lay_there_last(self):
        box = box_of([((1,), 3)])
        self.assertEqual([box.put_right(0, [((2,), 3)]), box.put_right(0, [((2,), 2), ((1,), 1)])], [3, 1])

    def test_the_empty_bundle(self):
        box = box_of([])
        self.assertEqual(box.put_right(0, []), 0)
        error = self.refuses(WrongNumber, box.put_right, 0, [((), 1)])
        self.assertEqual((error.wanted, error.got), (0, 1))

    def test_wrong_number(self):
        box = box_of([((3,), 1)], LINES)
        before = told_of(box)
        for lines, got in [([], 0), ([((), 16)], 16), ([((), 18)], 18), (LINES + [((), MOST)], MOST + 17)]:
            error = self.refuses(WrongNumber, box.put_right, 1, lines)
            self.assertEqual((error.wanted, error.got), (17, got))
            self.assertEqual(told_of(box), before)

    def test_no_sheet_ahead_of_wrong_number(self):
        box = box_of(LINES)
        before = told_of(box)
        for number in NO_WHOLES + [0, -1, MOST + 1]:
            for lines in ([((), number)], [((), 17), ((1,), number)], [((1,), number), ((), 3)]):
                self.refuses(NoSheet, box.put_right, 0, lines)
        self.refuses(NoSheet, box.put_right, 0, [((), 18), ((), -1)])
        self.assertEqual(told_of(box), before)

    def test_no_bundle_ahead_of_all(self):
        box = box_of(LINES, [((1,), 1)])
        before = told_of(box)
        for k in NO_WHOLES + [-1, -2, 2, 3, 10 ** 59]:
            with self.subTest(k=k):
                for asked in (box.lines_at, box.sheet_at, box.seal_at):
                    self.refuses(NoBundle, asked, k)
                for lines in ([], LINES, [((), 0)], [((), 99)]):
                    self.refuses(NoBundle, box.put_right, k, lines)
        self.assertEqual(told_of(box), before)
        for k in (0, 1, -1):
            self.refuses(NoBundle, Box(2).lines_at, k)

    def test_the_next_bundles_number(self):
        box = box_of(LINES)
        self.refuses(WrongNumber, box.put_right, 0, [])
        self.refuses(NoBundle, box.put_right, 1, [])
        self.refuses(NoBallot, box.take, [0], seal_of([0]))
        self.refuses(Torn, box.take, [0], (0, 0, 0, 0))
        self.assertEqual([put(box, LINES), put(box, [])], [(1, 0), (2, 0)])


if __name__ == "__main__":
    unittest.main()
