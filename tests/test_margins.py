import random
import unittest

from pollproof.errors import TooHard
from pollproof.margins import Margin
from pollproof.pairs import Pairs
from pollproof.seats import Seats
from pollproof.sheets import ballots_in, changed, number_of
from pollproof.shifts import shift
from pollproof.ways import Way
from things import House, high_by, sheet_in, some_sheet

SHEET = sheet_in("5 a>b, 4 b>a, 3 c")


def some_elections(many=80):
    dice = random.Random(74)
    for turn in range(many):
        hands = dice.randint(2, 5)
        make = Seats if turn % 2 else Pairs
        way = make(hands, dice.randint(1, hands - 1), dice.sample(range(hands), hands))
        yield way, some_sheet(dice, hands, dice.randint(1, 7), dice.choice([1, 3, 30, 1000]))


class Fixed(Margin):
    """A margin beneath, that puts all but told and held otherwise."""

    def possible(self, sheet):
        return sheet != []

    def least(self, sheet):
        return (7, ["paper"])

    def high(self, sheet):
        return (9, ["change"], "pair")


class Hard(Margin):
    def least(self, sheet):
        raise TooHard(7)


class ByItself(House):
    def test_its_way(self):
        for way in (Seats(3, 1), Pairs(2, 1), Way(2, 1)):
            self.assertIs(Margin(way).way, way)

    def test_possible(self):
        for make in (Seats, Pairs, Way):
            for hands in range(1, 6):
                for seats in range(1, 7):
                    margin = Margin(make(hands, seats))
                    self.assertIs(margin.possible([]), False)
                    self.assertIs(margin.possible([((), 1)]), hands > seats)
                    self.assertIs(margin.possible([((), 1), ((1,), 10 ** 11)]), hands > seats)

    def test_least(self):
        margin = Margin(Seats(3, 1))
        self.assertEqual(margin.least(SHEET), (1, []))
        margin.least(SHEET)[1].append(5)
        self.assertEqual(margin.least(SHEET), (1, []))

    def test_shows(self):
        margin = Margin(Seats(3, 1))
        for paper in ([], None, [1], "any", ((),)):
            for low in (1, 0, -1, -10 ** 50):
                self.assertIs(margin.shows(SHEET, low, paper), True)
            for low in (2, 3, 10 ** 50):
                self.assertIs(margin.shows(SHEET, low, paper), False)

    def test_slip_for(self):
        for x in range(12):
            for y in range(12):
                if x != y:
                    self.assertEqual(Margin(Seats(12, 1)).slip_for(x, y), (2 ** y,))

    def test_not_possible(self):
        for way, sheet in [(Seats(3, 1), []), (Seats(2, 2), SHEET), (Seats(2, 3), SHEET), (Pairs(2, 2), SHEET),
                           (Pairs(2, 60), SHEET)]:
            self.assertIsNone(Margin(way).told(sheet))


class Told(House):
    def test_least_and_high_together(self):
        for way, sheet in some_elections(30):
            margin = Margin(way)
            low, high, paper, change = margin.told(sheet)
            self.assertEqual((low, paper), (1, []))
            self.assertEqual((high, change), margin.high(sheet)[:2])
            self.assertIs(type(margin.told(sheet)), tuple)

    def test_it_goes_by_the_margins_own(self):
        margin = Fixed(Seats(2, 2))
        self.assertEqual(margin.told(SHEET), (7, 9, ["paper"], ["change"]))
        self.assertIsNone(margin.told([]))

    def test_what_least_refuses_it_refuses(self):
        error = self.refuses(TooHard, Hard(Seats(3, 1)).told, SHEET)
        self.assertEqual(error.at_least, 7)
        self.assertIsNone(Hard(Seats(3, 1)).told([]))
        self.assertIsNone(Hard(Seats(3, 3)).told(SHEET))


class Held(House):
    def test_by_itself(self):
        for way in (Seats(3, 1), Pairs(3, 2)):
            self.assertIs(Margin(way).held(SHEET, 0, SHEET), True)
            for unseen in (1, 2, 12):
                self.assertIs(Margin(way).held([], unseen, SHEET), False)

    def test_not_possible(self):
        for way in (Seats(3, 3), Pairs(3, 4)):
            self.assertIs(Margin(way).held([], 12, SHEET), True)
        self.assertIs(Margin(Seats(3, 1)).held([], 0, []), True)

    def test_low_above_just_and_below(self):
        margin = Fixed(Seats(2, 2))
        for unseen in (0, 1, 5, 6):
            self.assertIs(margin.held([], unseen, SHEET), True)
        for unseen in (7, 8, 10 ** 11):
            self.assertIs(margin.held([], unseen, SHEET), False)
            self.assertIs(margin.held([], unseen, []), True)

    def test_nothing_unseen_whatever_the_low_is(self):
        class Lower(Margin):
            def least(self, sheet):
                return (-1, [])

        self.assertIs(Lower(Seats(3, 1)).held(SHEET, 0, SHEET), True)
        self.assertIs(Lower(Seats(3, 1)).held(SHEET, 1, SHEET), False)

    def test_too_hard(self):
        margin = Hard(Seats(3, 1))
        for unseen in (0, 1, 6):
            self.assertIs(margin.held([], unseen, SHEET), True)
        for unseen in (7, 8, 10 ** 11):
            self.assertIs(margin.held([], unseen, SHEET), False)

    def test_it_goes_by_known(self):
        class ByBallots(Margin):
            def least(self, sheet):
                return (ballots_in(sheet), [])

        margin = ByBallots(Seats(3, 1))
        self.assertIs(margin.held([((1,), 3)], 4, [((1,), 5)]), True)
        self.assertIs(margin.held([((1,), 9)], 5, [((1,), 5)]), False)


class High(House):
    def test_two_hands(self):
        self.assertEqual(Margin(Seats(2, 1)).high(sheet_in("6 a, 3 b")), (2, [((1,), (2,), 2)], (0, 1)))
        self.assertEqual(Margin(Pairs(2, 1, [1, 0])).high(sheet_in("6 a, 3 b, 4 ")), (2, [((1,), (2,), 2)], (0, 1)))
        self.assertEqual(Margin(Seats(2, 1)).high([((), 1)]), (1, [((), (2,), 1)], (0, 1)))

    def test_against_the_halving_to_its_end(self):
        for way, sheet in some_elections():
            margin = Margin(way)
            kept = list(sheet)
            high, change, pair = margin.high(sheet)
            self.assertEqual((high, pair), high_by(margin, sheet))
            self.assertEqual(sum(number for _, _, number in change), high)
            self.assertNotEqual(way.outcome(changed(sheet, change)), way.outcome(sheet))
            x, y = pair
            slip = margin.slip_for(x, y)
            self.assertNotEqual(way.outcome(changed(sheet, shift(sheet, x, y, slip, high))), way.outcome(sheet))
            if high > 1:
                less = changed(sheet, shift(sheet, x, y, slip, high - 1))
                self.assertEqual(way.outcome(less), way.outcome(sheet))
            self.assertEqual(sheet, kept)

    def test_the_first_of_several_pairs(self):
        sheet = sheet_in("3 a, 3 b, 1 c, 1 d")
        self.assertEqual(high_by(Margin(Pairs(4, 2)), sheet), Margin(Pairs(4, 2)).high(sheet)[::2])
        self.assertEqual(Margin(Pairs(4, 2)).high(sheet)[2], (0, 2))
        self.assertEqual(Margin(Pairs(4, 2, [3, 2, 1, 0])).high(sheet)[2], (0, 2))

    def test_it_goes_by_the_margins_own_slip(self):
        class Behind(Margin):
            def slip_for(self, x, y):
                return (2 ** y, 2 ** x)

        seen = 0
        for way, sheet in some_elections(60):
            margin = Behind(way)
            high, change, pair = margin.high(sheet)
            self.assertEqual((high, pair), high_by(margin, sheet))
            self.assertTrue(all(new == margin.slip_for(*pair) for _, new, _ in change))
            seen += (high, pair) != Margin(way).high(sheet)[::2]
        self.assertGreater(seen, 0)

    def test_it_goes_by_the_ways_own_outcome(self):
        class First(Way):
            def counted(self, sheet):
                return sheet

            def told_by(self, paper):
                return [1, 0] if dict(paper).get((2,), 0) < 5 else [0, 1]

        self.assertEqual(Margin(First(2, 1)).high([((1,), 9)]), (5, [((1,), (2,), 5)], (0, 1)))

    def test_the_very_halving(self):
        class Leaping(Way):
            """Other outcomes come and go: each hand behind the first has numbers of its own that lift it."""

            def counted(self, sheet):
                return [number_of(sheet, (2 ** y, 1)) for y in range(self.hands)]

            def told_by(self, paper):
                lifted = [y for y in range(1, self.hands) if paper[y] in self.lifting[y]]
                return [1 if hand == (lifted + [0])[0] else 0 for hand in range(self.hands)]

        class Behind(Margin):
            def slip_for(self, x, y):
                return (2 ** y, 2 ** x)

        dice = random.Random(742)
        seen = set()
        for _ in range(300):
            way, had, more = Leaping(4, 1), dice.randint(0, 3), dice.randint(1, 40)
            sheet = [((2, 1), had)] * (had > 0) + [((8,), more)]
            way.lifting = [{k for k in range(1, had + more) if k != had and dice.randint(0, 1)} | {had + more}
                           for _ in range(4)]
            high, change, pair = Behind(way).high(sheet)
            self.assertEqual((high, pair), high_by(Behind(way), sheet))
            self.assertEqual(sum(number for _, _, number in change), high)
            seen.add(pair)
        self.assertEqual(seen, {(0, 1), (0, 2), (0, 3)})

    def test_great_sheets(self):
        sheet = [((1,), 6 * 10 ** 11), ((2,), 4 * 10 ** 11)]
        for make in (Seats, Pairs):
            self.assertEqual(Margin(make(2, 1)).high(sheet), (10 ** 11 + 1, [((1,), (2,), 10 ** 11 + 1)], (0, 1)))
            self.assertEqual(Margin(make(2, 1, [1, 0])).high(sheet), (10 ** 11, [((1,), (2,), 10 ** 11)], (0, 1)))


if __name__ == "__main__":
    unittest.main()
