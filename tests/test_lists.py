import copy
import itertools
import random
import unittest
from fractions import Fraction

from pollproof.errors import NoWay
from pollproof.lists import Lists, votes_of
from pollproof.sheets import ballots_in
from pollproof.ways import Way
from things import (
    NO_WHOLES, House, all_slips, least_by, lists_by, outcome_by, refuses_what_a_way_refuses, sheet_in, some_sheet,
    told_fraction, votes_by,
)

DOCUMENT = [((1,), 6), ((2,), 3), ((3,), 2), ((4, 1), 1)]
HURDLES = [(0, 1), (1, 1), (1, 20), (1, 3), (1, 2), (2, 5)]


def some_way(dice, hands):
    return Lists(hands, dice.randint(1, 8), dice.sample(range(hands), hands), dice.choice(HURDLES), dice.randint(1, 9))


def some_elections(many=150):
    dice = random.Random(65)
    for _ in range(many):
        hands = dice.randint(1, 5)
        sheet = some_sheet(dice, hands, dice.randint(0, 12), dice.choice([1, 4, 60]))
        yield some_way(dice, hands), sheet


class Votes(House):
    def test_known_ones(self):
        self.assertEqual(votes_of(DOCUMENT, 3), [6, 3, 1, 2])
        self.assertEqual(votes_of([], 3), [0, 0, 0, 0])
        self.assertEqual(votes_of([], 1), [0, 0])
        self.assertEqual(votes_of(sheet_in("5 , 2 a>b, 3 a, 4 ab, 1 abc>d, 7 c>ab"), 4), [5, 0, 7, 0, 10])
        self.assertEqual(votes_of([((2048, 1), 10 ** 12)], 12), [0] * 11 + [10 ** 12, 0])

    def test_each_slip(self):
        for hands in (1, 2, 3, 4):
            for slip in all_slips(hands):
                wanted = [0] * (hands + 1)
                first = [hand for hand in range(hands) if slip and slip[0] >> hand & 1]
                wanted[first[0] if len(first) == 1 else hands] = 7
                self.assertEqual(votes_of([(slip, 7)], hands), wanted)

    def test_they_come_to_all_ballots(self):
        for way, sheet in some_elections():
            kept = list(sheet)
            self.assertEqual(sum(votes_of(sheet, way.hands)), ballots_in(sheet))
            self.assertEqual(sheet, kept)


class Making(House):
    def test_like_a_way_with_two_things_more(self):
        way = Lists(3, 60, [2, 0, 1], (1, 20), 9)
        self.assertIsInstance(way, Way)
        self.assertEqual((way.hands, way.seats, way.lots, way.hurdle, way.step), (3, 60, [2, 0, 1], (1, 20), 9))
        for way in (Lists(3, 1), Lists(3, 1, None), Lists(3, 1, None, None), Lists(3, 1, None, None, 1),
                    Lists(3, 1, [0, 1, 2], (0, 1))):
            self.assertEqual((way.lots, way.hurdle, way.step), ([0, 1, 2], (0, 1), 1))
        named = Lists(hands=2, seats=1, lots=[1, 0], hurdle=(1, 1), step=2)
        self.assertEqual((named.lots, named.hurdle, named.step), ([1, 0], (1, 1), 2))

    def test_what_a_way_refuses(self):
        refuses_what_a_way_refuses(self, Lists)
        refuses_what_a_way_refuses(self, lambda hands, seats, lots: Lists(hands, seats, lots, (1, 2), 3))

    def test_hurdles(self):
        for hurdle in HURDLES + [(1, 10 ** 60), (10 ** 60 - 1, 10 ** 60)]:
            self.assertEqual(Lists(3, 1, None, hurdle).hurdle, hurdle)
        for hurdle in [
            (2, 4), (0, 2), [1, 2], (3, 2), (2, 1), (-1, 2), (-1, -2), (1, -2), (1, 0), (0, 0), (0, -1), (10, 20),
            (True, 1), (True, 2), (1, True), (False, 1), (0, True), (1,), (), (1, 2, 3), "1/2", "12", 0, 1, True,
            False, {}, {1: 2}, (1.0, 2), ("1", "2"), (None, 1), (1, None), ((1, 2), 1), [0, 1], "", 0.5,
        ]:
            with self.subTest(hurdle=hurdle):
                self.refuses(NoWay, Lists, 3, 1, None, hurdle)
        for thing in NO_WHOLES:
            self.refuses(NoWay, Lists, 3, 1, None, (thing, 1))
            self.refuses(NoWay, Lists, 3, 1, None, (1, thing))
            if thing is not None and thing != (1, 2):
                self.refuses(NoWay, Lists, 3, 1, None, thing)

    def test_steps(self):
        for step in range(1, 10):
            self.assertEqual(Lists(3, 1, None, None, step).step, step)
        for step in NO_WHOLES + [0, 10, -1, 10 ** 59]:
            with self.subTest(step=step):
                self.refuses(NoWay, Lists, 3, 1, None, None, step)


class Numbers(House):
    def test_least_votes_by_the_document(self):
        way = Lists(3, 1, None, (1, 20))
        self.assertEqual([way.least_votes(ballots) for ballots in (41, 40, 20, 0)], [3, 2, 1, 1])

    def test_least_votes(self):
        for hurdle in HURDLES + [(1, 10 ** 60), (999, 1000)]:
            way = Lists(3, 1, None, hurdle)
            for ballots in list(range(60)) + [10 ** 12, 10 ** 12 - 1]:
                self.assertEqual(way.least_votes(ballots), least_by(ballots, hurdle))
        self.assertEqual([Lists(3, 1).least_votes(ballots) for ballots in (0, 1, 10 ** 12)], [1, 1, 1])
        self.assertEqual([Lists(3, 1, None, (1, 1)).least_votes(ballots) for ballots in (0, 1, 9)], [1, 1, 9])

    def test_marks(self):
        self.assertEqual([Lists(3, 1).mark(6, had) for had in range(4)], [(6, 1), (3, 1), (2, 1), (3, 2)])
        two = Lists(3, 1, None, None, 2)
        self.assertEqual([two.mark(6, had) for had in range(4)], [(6, 1), (2, 1), (6, 5), (6, 7)])
        self.assertEqual(Lists(3, 1, None, None, 9).mark(0, 60), (0, 1))
        self.assertEqual(Lists(3, 1, None, None, 9).mark(10 ** 12, 1), (10 ** 11, 1))


class Document(House):
    def test_the_example_whole(self):
        way = Lists(3, 4)
        paper = way.counted(DOCUMENT)
        self.assertEqual(paper, ([6, 3, 1, 2], 1, [
            ([(6, 1), (3, 1), (1, 1)], 0), ([(3, 1), (3, 1), (1, 1)], 0), ([(2, 1), (3, 1), (1, 1)], 1),
            ([(2, 1), (3, 2), (1, 1)], 0),
        ]))
        self.assertEqual(way.told_by(paper), [3, 1, 0])
        self.assertEqual(way.outcome(DOCUMENT), [3, 1, 0])


class Counting(House):
    def given(self, text, *made):
        return [hand for _, hand in Lists(*made).counted(sheet_in(text))[2]]

    def test_ties_by_lots_either_way(self):
        for lots in itertools.permutations(range(3)):
            self.assertEqual(self.given("4 a, 4 b, 4 c", 3, 4, list(lots)), list(lots) + [lots[0]])
            self.assertEqual(self.given("2 a, 4 b", 3, 2, list(lots)), [1, min((0, 1), key=lots.index)])

    def test_more_seats_than_hands(self):
        self.assertEqual(self.given("1 a", 1, 60), [0] * 60)
        self.assertEqual(Lists(2, 7).outcome(sheet_in("2 a, 1 b")), [5, 2])

    def test_below_the_hurdle(self):
        way = Lists(3, 3, None, (1, 3))
        paper = way.counted(sheet_in("5 a, 3 b, 1 c"))
        self.assertEqual(paper, ([5, 3, 1, 0], 3, [
            ([(5, 1), (3, 1), None], 0), ([(5, 2), (3, 1), None], 1), ([(5, 2), (3, 2), None], 0)]))
        self.assertEqual(way.outcome(sheet_in("5 a, 3 b, 1 c")), [2, 1, 0])
        self.assertEqual(way.outcome(sheet_in("5 a, 3 b, 2 c")), [3, 0, 0])

    def test_hands_without_votes_take_no_part(self):
        self.assertEqual(Lists(2, 2).counted(sheet_in("1 a")),
                         ([1, 0, 0], 1, [([(1, 1), None], 0), ([(1, 2), None], 0)]))

    def test_idle_ballots_count_for_the_hurdle(self):
        way = Lists(2, 1, None, (1, 2))
        self.assertEqual(way.outcome(sheet_in("3 a, 3 b")), [1, 0])
        self.assertEqual(way.outcome(sheet_in("3 a, 3 b, 1 ab")), [0, 0])
        self.assertEqual(way.outcome(sheet_in("3 a, 3 b, 1 ")), [0, 0])

    def test_nobody_takes_part(self):
        for way, sheet in [(Lists(2, 3), []), (Lists(2, 3), sheet_in("4 ")), (Lists(2, 3), sheet_in("4 ab")),
                           (Lists(2, 3, None, (1, 1)), sheet_in("4 a, 1 b")), (Lists(1, 1, None, (1, 1)), [])]:
            paper = way.counted(sheet)
            self.assertEqual(paper, (votes_by(sheet, way.hands), least_by(ballots_in(sheet), way.hurdle), []))
            self.assertEqual(way.told_by(paper), [0] * way.hands)
            self.assertEqual(way.outcome(sheet), [0] * way.hands)

    def test_against_all_marks_at_once(self):
        for way, sheet in some_elections():
            kept = list(sheet)
            votes, least, rounds = way.counted(sheet)
            self.assertEqual((votes, least), (votes_by(sheet, way.hands), least_by(ballots_in(sheet), way.hurdle)))
            self.assertEqual(way.outcome(sheet), lists_by(votes, least, way.seats, way.lots, way.step))
            self.assertEqual(way.told_by((votes, least, rounds)), way.outcome(sheet))
            had = [0] * way.hands
            for marks, hand in rounds:
                wanted = [told_fraction(Fraction(votes[a], 1 + way.step * had[a])) if votes[a] >= least else None
                          for a in range(way.hands)]
                self.assertEqual(marks, wanted)
                had[hand] += 1
            self.assertEqual(len(rounds), way.seats if max(votes[:-1]) >= least else 0)
            self.assertEqual(sheet, kept)

    def test_twelve_hands_sixty_seats(self):
        dice = random.Random(66)
        sheet = some_sheet(dice, 12, 60, 10 ** 10)
        way = Lists(12, 60, dice.sample(range(12), 12), None, 2)
        self.assertEqual(way.outcome(sheet), outcome_by(way, sheet))

    def test_told_lists_are_new_ones(self):
        way = Lists(3, 4)
        first = way.counted(DOCUMENT)
        wanted = copy.deepcopy(first)
        first[2][0][0][0] = None
        self.assertEqual(first[2][1:], wanted[2][1:])
        first[0].clear()
        first[2].pop()
        way.outcome(DOCUMENT).clear()
        votes_of(DOCUMENT, 3).append(4)
        self.assertEqual(way.counted(DOCUMENT), wanted)


class Promises(House):
    def fits(self, way, votes, least, outcome):
        """Whether the first sentence of 6.8 holds of an outcome."""
        hands = [hand for hand in range(way.hands) if votes[hand] >= least]
        for b, a in itertools.permutations(hands, 2):
            if outcome[b]:
                last, waits = way.mark(votes[b], outcome[b] - 1), way.mark(votes[a], outcome[a])
                left, right = last[0] * waits[1], waits[0] * last[1]
                if left < right or left == right and not way.ahead(b, a):
                    return False
        return all(outcome[hand] == 0 or hand in hands for hand in range(way.hands))

    def test_just_one_outcome_fits(self):
        dice = random.Random(68)
        for _ in range(60):
            hands = dice.randint(1, 3)
            way = Lists(hands, dice.randint(1, 5), dice.sample(range(hands), hands), dice.choice(HURDLES),
                        dice.randint(1, 3))
            sheet = some_sheet(dice, hands, 5, 6)
            votes, least, rounds = way.counted(sheet)
            if rounds:
                every = itertools.product(range(way.seats + 1), repeat=hands)
                fitting = [list(one) for one in every if sum(one) == way.seats and self.fits(way, votes, least, one)]
                self.assertEqual(fitting, [way.outcome(sheet)])

    def test_one_seat_more(self):
        for way, sheet in some_elections():
            more = Lists(way.hands, way.seats + 1, way.lots, way.hurdle, way.step)
            if way.counted(sheet)[2]:
                steps = [b - a for a, b in zip(way.outcome(sheet), more.outcome(sheet))]
                self.assertEqual(sorted(steps), [0] * (way.hands - 1) + [1])

    def test_votes_for_hands_that_take_no_part(self):
        seen = 0
        for way, sheet in some_elections():
            votes, least, _ = way.counted(sheet)
            out = [2 ** hand for hand in range(way.hands) if votes[hand] < least]
            lines = {}
            for slip, number in sheet:
                new = () if slip and slip[0] in out else slip
                seen += new != slip
                lines[new] = lines.get(new, 0) + number
            self.assertEqual(way.outcome(sorted(lines.items())), way.outcome(sheet))
        self.assertGreater(seen, 50)

    def test_two_lists_that_go_together(self):
        dice = random.Random(69)
        for _ in range(300):
            hands = dice.randint(2, 5)
            lots = dice.sample(range(hands), hands)
            way = Lists(hands, dice.randint(1, 9), lots)
            sheet = [((2 ** hand,), dice.randint(1, 12)) for hand in range(hands) if dice.randint(0, 4)]
            one, other = sorted(dice.sample(range(hands), 2), key=lots.index)
            lines = {}
            for slip, number in sheet:
                new = (2 ** one,) if slip == (2 ** other,) else slip
                lines[new] = lines.get(new, 0) + number
            before, after = way.outcome(sheet), way.outcome(sorted(lines.items()))
            self.assertGreaterEqual(after[one], before[one] + before[other])


if __name__ == "__main__":
    unittest.main()
