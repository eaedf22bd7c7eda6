import itertools
import unittest

from pollproof.ways import Checker, Way
from things import House, refuses_what_a_way_refuses

SHEET = [((), 2), ((1, 2), 3)]


class Making(House):
    def test_values(self):
        for hands in range(1, 13):
            for seats in (1, 2, 59, 60):
                way = Way(hands, seats)
                self.assertEqual((way.hands, way.seats, way.lots), (hands, seats, list(range(hands))))
                self.assertEqual(Way(hands, seats, None).lots, list(range(hands)))
                turned = list(range(hands))[::-1]
                self.assertEqual(Way(hands, seats, turned).lots, turned)
                self.assertEqual(Way(hands, seats, lots=turned).lots, turned)
                self.assertIs(type(way.lots), list)

    def test_any_order(self):
        for lots in itertools.permutations(range(4)):
            way = Way(4, 2, list(lots))
            self.assertEqual(way.lots, list(lots))
            for one in range(4):
                for other in range(4):
                    self.assertIs(way.ahead(one, other), lots.index(one) < lots.index(other))

    def test_no_hand_is_ahead_of_itself(self):
        for hand in range(12):
            self.assertIs(Way(12, 1).ahead(hand, hand), False)

    def test_its_lots_are_its_own(self):
        lots = [2, 0, 1]
        way = Way(3, 1, lots)
        lots.reverse()
        lots[0] = 77
        self.assertEqual(way.lots, [2, 0, 1])
        self.assertIs(way.ahead(2, 1), True)

    def test_refused(self):
        refuses_what_a_way_refuses(self, Way)


class Counting(House):
    def test_by_itself_it_counts_nobody(self):
        for hands in (1, 3, 12):
            way = Way(hands, 2)
            for sheet in ([], SHEET):
                self.assertIsNone(way.counted(sheet))
                self.assertEqual(way.outcome(sheet), [0] * hands)
            for paper in (None, [], [1], ("any",), {}, 7):
                self.assertEqual(way.told_by(paper), [0] * hands)

    def test_told_lists_are_new_ones(self):
        way = Way(2, 1)
        way.told_by(None).append(7)
        way.outcome([])[0] = 5
        self.assertEqual((way.told_by(None), way.outcome([])), ([0, 0], [0, 0]))

    def test_the_outcome_goes_by_the_ways_own_two(self):
        class Both(Way):
            def counted(self, sheet):
                return ("paper", sheet)

            def told_by(self, paper):
                return [len(paper[1]), self.seats]

        class Counted(Way):
            def counted(self, sheet):
                raise KeyError("asked")

        class Told(Way):
            def told_by(self, paper):
                return [paper, 5]

        self.assertEqual(Both(2, 3).outcome(SHEET), [2, 3])
        self.assertEqual(Told(2, 3).outcome(SHEET), [None, 5])
        with self.assertRaises(KeyError):
            Counted(2, 3).outcome(SHEET)


class Checking(House):
    def test_by_itself_it_finds_no_paper_right(self):
        way = Way(2, 1)
        checker = Checker(way)
        self.assertIs(checker.way, way)
        for paper in (None, [], way.counted(SHEET), ("any",)):
            self.assertIs(checker.right(SHEET, paper), False)
            self.assertIs(checker.passes(SHEET, paper, [0, 0]), False)

    def test_passes_goes_by_its_own_right_and_its_ways_told_by(self):
        class Told(Way):
            def told_by(self, paper):
                return [paper, 0]

        class Fives(Checker):
            def right(self, sheet, paper):
                return sheet == SHEET and paper == 5

        checker = Fives(Told(2, 1))
        self.assertIs(checker.passes(SHEET, 5, [5, 0]), True)
        self.assertIs(checker.passes(SHEET, 5, [0, 5]), False)
        self.assertIs(checker.passes(SHEET, 5, []), False)
        self.assertIs(checker.passes(SHEET, 6, [6, 0]), False)
        self.assertIs(checker.passes([], 5, [5, 0]), False)
        self.assertIs(Fives(Way(2, 1)).passes(SHEET, 5, [0, 0]), True)


if __name__ == "__main__":
    unittest.main()
