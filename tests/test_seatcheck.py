import copy
import random
import unittest

from pollproof.seatcheck import SeatsChecker
from pollproof.seats import Seats
from pollproof.ways import Checker
from things import House, altered, some_sheet

DOCUMENT = [((1, 2), 4), ((2, 1), 3), ((4, 2), 2)]


def some_elections():
    dice = random.Random(411)
    for _ in range(40):
        hands = dice.randint(1, 5)
        yield Seats(hands, dice.randint(1, 4), dice.sample(range(hands), hands)), some_sheet(dice, hands, 5, 20)


class SeatsPapers(House):
    def test_it_is_a_checker(self):
        way = Seats(3, 1)
        self.assertIsInstance(SeatsChecker(way), Checker)
        self.assertIs(SeatsChecker(way).way, way)

    def test_the_ways_own_paper_is_right(self):
        for way, sheet in some_elections():
            paper = way.counted(sheet)
            kept = copy.deepcopy((sheet, paper))
            self.assertIs(SeatsChecker(way).right(sheet, paper), True)
            self.assertIs(SeatsChecker(way).passes(sheet, paper, way.outcome(sheet)), True)
            self.assertEqual((sheet, paper), kept)

    def test_no_ballots(self):
        way = Seats(3, 2)
        self.assertIs(SeatsChecker(way).right([], way.counted([])), True)
        self.assertIs(SeatsChecker(way).right([], []), False)

    def test_with_any_one_thing_altered_it_is_not(self):
        for way, sheet in [(Seats(3, 1), DOCUMENT), (Seats(3, 2), [((3, 4), 8), ((4,), 2)]),
                           (Seats(2, 2), [((1,), 1)])]:
            checker, paper = SeatsChecker(way), way.counted(sheet)
            many = 0
            for other in altered(paper):
                if other != paper:
                    many += 1
                    self.assertIs(checker.right(sheet, other), False, other)
                    self.assertIs(checker.passes(sheet, other, way.outcome(sheet)), False)
            self.assertGreater(many, 40)

    def test_a_deeds_hand(self):
        way = Seats(3, 1)
        for place in range(3):
            for hand in (None, 0, 1, 2, 3, -1, 10 ** 40):
                paper = way.counted(DOCUMENT)
                table, tallies, deed = paper[place]
                paper[place] = (table, tallies, (deed[0], hand))
                self.assertIs(SeatsChecker(way).right(DOCUMENT, paper), hand == deed[1])

    def test_not_in_lowest_terms(self):
        way = Seats(3, 1)
        for place in range(3):
            paper = way.counted(DOCUMENT)
            paper[place][1][0] = (8, 2)
            self.assertIs(SeatsChecker(way).right(DOCUMENT, paper), False)
            paper = way.counted(DOCUMENT)
            paper[place][0][0][0] = (2, 2)
            self.assertIs(SeatsChecker(way).right(DOCUMENT, paper), False)

    def test_another_sheets_or_ways_paper(self):
        way = Seats(3, 1)
        paper = way.counted(DOCUMENT)
        self.assertIs(SeatsChecker(way).right([((1, 2), 4), ((2, 1), 3), ((4, 2), 3)], paper), False)
        self.assertIs(SeatsChecker(Seats(3, 2)).right(DOCUMENT, paper), False)
        tied = [((1,), 1), ((2,), 1)]
        self.assertIs(SeatsChecker(Seats(2, 1, [1, 0])).right(tied, Seats(2, 1).counted(tied)), False)

    def test_passes_with_other_outcomes(self):
        for way, sheet in some_elections():
            paper, outcome = way.counted(sheet), way.outcome(sheet)
            for other in ([], outcome[1:], outcome + [0], [1 - seat for seat in outcome],
                          [seat + 1 for seat in outcome]):
                self.assertIs(SeatsChecker(way).passes(sheet, paper, other), other == outcome)

    def test_a_class_beneath_its_way(self):
        class Fixed(Seats):
            def counted(self, sheet):
                return [([], [], ("end", None))]

        checker = SeatsChecker(Fixed(2, 1))
        self.assertIs(checker.right([], [([], [], ("end", None))]), True)
        self.assertIs(checker.right([], Seats(2, 1).counted([])), False)


if __name__ == "__main__":
    unittest.main()
