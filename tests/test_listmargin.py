import copy
import itertools
import random
import unittest
from fractions import Fraction

from pollproof.listmargin import ListsMargin
from pollproof.lists import Lists
from pollproof.margins import Margin
from pollproof.sheets import ballots_in, changed
from things import (
    House, all_sheets, altered_lists, least_by, nearest_other, outcome_by, sheet_in, some_sheet, together, votes_by,
)

HURDLES = [(0, 1), (0, 1), (1, 5), (1, 3), (1, 2), (1, 1)]


def some_way(dice, hands):
    return Lists(hands, dice.randint(1, 5), dice.sample(range(hands), hands), dice.choice(HURDLES), dice.randint(1, 3))


def some_elections(many=150):
    dice = random.Random(810)
    for _ in range(many):
        hands = dice.randint(1, 4)
        yield some_way(dice, hands), some_sheet(dice, hands, dice.randint(1, 8), dice.choice([1, 3, 20]))


def goes_ahead(way, a, one, b, other):
    return one > other or one == other and way.ahead(a, b)


def mark(way, votes, had):
    return Fraction(votes, 1 + way.step * had)


def cases_by(way, sheet):
    """The cases, each need sought one by one."""
    votes, seats = votes_by(sheet, way.hands), outcome_by(way, sheet)
    least = least_by(ballots_in(sheet), way.hurdle)
    hands = range(way.hands)
    if not any(votes[hand] >= least for hand in hands):
        return [("rise", None, a, least - votes[a]) for a in hands]
    cases = []
    for b in hands:
        if seats[b]:
            cases.append(("fall", b, None, next(k for k in itertools.count(1) if votes[b] - k < least)))
            for a in hands:
                if a != b:
                    cases.append(("pass", b, a, next(
                        k for k in itertools.count(1) if votes[a] + k >= least and (
                            votes[b] - k < least or goes_ahead(way, a, mark(way, votes[a] + k, seats[a]),
                                                               b, mark(way, votes[b] - k, seats[b] - 1))))))
    return cases


class Cases(House):
    def test_it_is_a_margin(self):
        way = Lists(2, 1)
        self.assertIsInstance(ListsMargin(way), Margin)
        self.assertIs(ListsMargin(way).way, way)

    def test_possible(self):
        for hands, seats in [(1, 1), (2, 1), (2, 2), (2, 60), (12, 3)]:
            self.assertIs(ListsMargin(Lists(hands, seats)).possible([]), False)
            for sheet in ([((), 1)], [((1,), 10 ** 12)]):
                self.assertIs(ListsMargin(Lists(hands, seats)).possible(sheet), True)

    def test_each_kind_of_case(self):
        margin = ListsMargin(Lists(3, 4))
        self.assertEqual(margin.least([((1,), 6), ((2,), 3), ((3,), 2), ((4, 1), 1)]), (1, [
            ("fall", 0, None, 6), ("pass", 0, 1, 1), ("pass", 0, 2, 1),
            ("fall", 1, None, 3), ("pass", 1, 0, 2), ("pass", 1, 2, 2)]))
        margin = ListsMargin(Lists(2, 1, None, (1, 2)))
        self.assertEqual(margin.least(sheet_in("3 a, 2 b, 4 ")), (2, [("rise", None, 0, 2), ("rise", None, 1, 3)]))
        margin = ListsMargin(Lists(2, 1, None, (1, 3)))
        self.assertEqual(margin.least(sheet_in("5 a, 4 ")), (3, [("fall", 0, None, 3), ("pass", 0, 1, 3)]))

    def test_lots_either_way(self):
        sheet = sheet_in("6 a, 2 b")
        self.assertEqual(ListsMargin(Lists(2, 1)).least(sheet)[0], 3)
        self.assertEqual(ListsMargin(Lists(2, 1, [1, 0])).least(sheet)[0], 2)

    def test_against_needs_sought_one_by_one(self):
        kinds = set()
        for way, sheet in some_elections(300):
            kept = list(sheet)
            low, cases = ListsMargin(way).least(sheet)
            self.assertEqual(cases, cases_by(way, sheet))
            self.assertEqual(low, min(case[3] for case in cases))
            self.assertEqual((type(cases), {type(case) for case in cases}), (list, {tuple}))
            self.assertEqual(sheet, kept)
            kinds |= {case[0] for case in cases}
        self.assertEqual(kinds, {"fall", "pass", "rise"})

    def test_one_hand(self):
        self.assertEqual(ListsMargin(Lists(1, 3)).least([((1,), 5)]), (5, [("fall", 0, None, 5)]))
        self.assertEqual(ListsMargin(Lists(1, 3)).least([((), 5)]), (1, [("rise", None, 0, 1)]))

    def test_great_numbers(self):
        sheet = [((1,), 6 * 10 ** 11), ((2,), 4 * 10 ** 11)]
        low, high, cases, change = ListsMargin(Lists(2, 1)).told(sheet)
        self.assertEqual((low, high, change), (10 ** 11 + 1, 10 ** 11 + 1, [((1,), (2,), 10 ** 11 + 1)]))


class Exact(House):
    def assert_exact(self, way, sheet, sheets, outcomes):
        low, high, cases, change = ListsMargin(way).told(sheet)
        self.assertEqual((low, high), (nearest_other(way, sheet, sheets, outcomes),) * 2, (sheet, vars(way)))
        self.assert_change(way, sheet, low, change)

    def assert_change(self, way, sheet, low, change):
        self.assertEqual(sum(number for _, _, number in change), low)
        self.assertNotEqual(outcome_by(way, changed(sheet, change)), outcome_by(way, sheet))

    def test_all_changes_of_small_sheets(self):
        dice = random.Random(811)
        for hands, ballots, some in ((1, 1, 2), (1, 4, 5), (2, 1, 6), (2, 3, 56), (2, 5, 60), (3, 2, 40), (3, 3, 8)):
            sheets = all_sheets(hands, ballots)
            for _ in range(6):
                way = some_way(dice, hands)
                outcomes = [outcome_by(way, sheet) for sheet in sheets]
                for sheet in dice.sample(sheets, min(some, len(sheets))):
                    self.assert_exact(way, sheet, sheets, outcomes)

    def test_told_changes_of_greater_sheets(self):
        for way, sheet in some_elections(300):
            low, high, cases, change = ListsMargin(way).told(sheet)
            self.assertEqual((low, cases), ListsMargin(way).least(sheet))
            self.assertEqual(low, high)
            self.assert_change(way, sheet, low, change)
            again = ListsMargin(way).high(sheet)
            self.assertEqual((again[0], again[2]), (low, None))
            self.assert_change(way, sheet, low, again[1])

    def test_a_rise_takes_no_votes_of_the_same_hand(self):
        # Most ballots are for a already, written otherwise than the slip that is put.
        way, sheet = Lists(2, 1, None, (1, 1)), sheet_in("6 a>b, 1 ab, 1 , 1 b")
        low, _, cases, change = ListsMargin(way).told(sheet)
        self.assertEqual((low, cases), (3, [("rise", None, 0, 3), ("rise", None, 1, 8)]))
        self.assert_change(way, sheet, 3, change)

    def test_no_ballots(self):
        self.assertIsNone(ListsMargin(Lists(2, 1)).told([]))
        self.assertIsNone(ListsMargin(Lists(2, 1, None, (1, 1), 3)).told([]))

    def test_hands_no_more_than_seats(self):
        self.assertEqual(ListsMargin(Lists(2, 2)).told(sheet_in("2 a, 2 b"))[:2], (1, 1))
        self.assertEqual(ListsMargin(Lists(1, 60)).told(sheet_in("3 a"))[:2], (3, 3))
        self.assertEqual(ListsMargin(Lists(1, 60)).told(sheet_in("3 a"))[3], [((1,), (), 3)])

    def test_told_lists_are_new_ones(self):
        margin, sheet = ListsMargin(Lists(2, 1)), sheet_in("3 a, 1 b")
        first = margin.told(sheet)
        wanted = copy.deepcopy(first)
        first[2].clear()
        first[3].clear()
        self.assertEqual(margin.told(sheet), wanted)


class Shows(House):
    def test_the_own_paper_and_lesser_lows(self):
        for way, sheet in some_elections(100):
            margin = ListsMargin(way)
            low, cases = margin.least(sheet)
            for less in (low, low - 1, 1, 0, -1, -10 ** 50):
                self.assertIs(margin.shows(sheet, less, cases), True)
            for more in (low + 1, 10 ** 50):
                self.assertIs(margin.shows(sheet, more, cases), False)

    def test_each_single_thing_that_makes_a_paper_wrong(self):
        for way, sheet in [(Lists(3, 4), sheet_in("6 a, 3 b, 2 ab, 1 c>a")),
                           (Lists(2, 1, None, (1, 1)), sheet_in("4 a, 1 b")),
                           (Lists(1, 1), sheet_in("3 a"))]:
            margin = ListsMargin(way)
            low, cases = margin.least(sheet)
            wrong = list(altered_lists(cases))
            for place, (word, b, a, own) in enumerate(cases):
                rows = [(other, b, a, own) for other in ("fall", "pass", "rise", "", "sink")]
                rows += [(word, hand, a, own) for hand in (None, 0, 1, 2, 3, -1, 10 ** 40)]
                rows += [(word, b, hand, own) for hand in (None, 0, 1, 2, 3, -1, 10 ** 40)]
                rows += [(word, b, a, other) for other in (own + 1, own - 1, -own, 0, 10 ** 40)]
                wrong += [cases[:place] + [row] + cases[place + 1:] for row in rows if row != cases[place]]
            self.assertGreater(len(wrong), 15)
            for paper in wrong + [[]]:
                self.assertNotEqual(paper, cases)
                for less in (low, 1, -10 ** 50):
                    self.assertIs(margin.shows(sheet, less, paper), False)

    def test_another_sheets_paper(self):
        margin = ListsMargin(Lists(2, 1))
        low, cases = margin.least(sheet_in("6 a, 2 b"))
        self.assertIs(margin.shows(sheet_in("6 a, 3 b"), low, cases), False)
        self.assertIs(ListsMargin(Lists(2, 2)).shows(sheet_in("6 a, 2 b"), low, cases), False)


class Held(House):
    def test_exact_against_all_ballots_that_could_lie_unseen(self):
        dice = random.Random(813)
        answers = []
        for _ in range(700):
            hands, unseen = dice.choice([(1, 1), (1, 3), (2, 1), (2, 2), (2, 3), (3, 1), (3, 2)])
            way = some_way(dice, hands)
            seen = some_sheet(dice, hands, dice.randint(0, 3), dice.choice([2, 9, 40]))
            others = all_sheets(hands, unseen)
            known = together(seen, dice.choice(others))
            kept = copy.deepcopy((seen, known))
            own = outcome_by(way, known)
            wanted = all(outcome_by(way, together(seen, other)) == own for other in others)
            answers.append(ListsMargin(way).held(seen, unseen, known))
            self.assertIs(answers[-1], wanted, (seen, unseen, known, vars(way)))
            self.assertEqual((seen, known), kept)
        self.assertTrue(100 < sum(answers) < 600, sum(answers))

    def test_where_it_is_false_ballots_for_one_hand_or_empty_ones_show_it(self):
        dice = random.Random(814)
        for _ in range(300):
            hands = dice.randint(1, 4)
            way, unseen = some_way(dice, hands), dice.randint(1, 30)
            seen = some_sheet(dice, hands, 5, 20)
            known = together(seen, [((dice.randint(1, 2 ** hands - 1),), unseen)])
            others = [[((), unseen)]] + [[((2 ** hand,), unseen)] for hand in range(hands)]
            wanted = all(outcome_by(way, together(seen, other)) == outcome_by(way, known) for other in others)
            self.assertIs(ListsMargin(way).held(seen, unseen, known), wanted)

    def test_nothing_unseen(self):
        for way, sheet in some_elections(40):
            self.assertIs(ListsMargin(way).held(sheet, 0, sheet), True)
        self.assertIs(ListsMargin(Lists(2, 1)).held([], 0, []), True)

    def test_each_reason(self):
        half = ListsMargin(Lists(2, 1, None, (1, 2)))
        # Nobody has a seat, and a may come to have enough votes, or not.
        self.assertIs(half.held(sheet_in("2 a, 4 "), 2, sheet_in("2 a, 6 ")), False)
        self.assertIs(half.held(sheet_in("1 a, 5 "), 2, sheet_in("1 a, 7 ")), True)
        # The votes of b that are seen are too few by themselves.
        self.assertIs(half.held(sheet_in("3 a, 2 "), 3, sheet_in("5 a, 3 ")), False)
        self.assertIs(half.held(sheet_in("4 a, 2 "), 2, sheet_in("5 a, 3 ")), True)
        # a passes b, or is too late by lots.
        self.assertIs(ListsMargin(Lists(2, 1)).held(sheet_in("4 a, 1 b"), 3, sheet_in("5 a, 3 b")), True)
        self.assertIs(ListsMargin(Lists(2, 1, [1, 0])).held(sheet_in("4 a, 1 b"), 3, sheet_in("5 a, 3 b")), False)
        self.assertIs(ListsMargin(Lists(2, 1)).held(sheet_in("4 a, 2 b"), 3, sheet_in("5 a, 4 b")), False)


if __name__ == "__main__":
    unittest.main()
