import copy
import random
import unittest

from pollproof.listcheck import ListsChecker
from pollproof.lists import Lists
from pollproof.ways import Checker
from things import House, altered, sheet_in, some_sheet

DOCUMENT = [((1,), 6), ((2,), 3), ((3,), 2), ((4, 1), 1)]


def some_elections():
    dice = random.Random(69)
    for _ in range(60):
        hands = dice.randint(1, 5)
        way = Lists(hands, dice.randint(1, 6), dice.sample(range(hands), hands), dice.choice([None, (1, 3), (1, 1)]),
                    dice.randint(1, 3))
        yield way, some_sheet(dice, hands, dice.randint(0, 8), 20)


class ListsPapers(House):
    def test_it_is_a_checker(self):
        way = Lists(3, 1)
        self.assertIsInstance(ListsChecker(way), Checker)
        self.assertIs(ListsChecker(way).way, way)

    def test_the_ways_own_paper_is_right(self):
        for way, sheet in some_elections():
            paper = way.counted(sheet)
            kept = copy.deepcopy((sheet, paper))
            self.assertIs(ListsChecker(way).right(sheet, paper), True)
            self.assertIs(ListsChecker(way).passes(sheet, paper, way.outcome(sheet)), True)
            self.assertIs(ListsChecker(way).passes(sheet, paper, way.outcome(sheet) + [0]), False)
            self.assertIs(ListsChecker(way).passes(sheet, paper, [seats + 1 for seats in way.outcome(sheet)]), False)
            self.assertEqual((sheet, paper), kept)

    def test_with_any_one_thing_altered_it_is_not(self):
        for way, sheet in [(Lists(3, 4), DOCUMENT), (Lists(3, 3, None, (1, 3)), sheet_in("5 a, 3 b, 1 c")),
                           (Lists(2, 2, None, (1, 1)), sheet_in("4 a, 1 b")), (Lists(1, 1), [])]:
            checker, paper = ListsChecker(way), way.counted(sheet)
            many = 0
            for other in altered(paper):
                if other != paper:
                    many += 1
                    self.assertIs(checker.right(sheet, other), False, other)
                    self.assertIs(checker.passes(sheet, other, way.outcome(sheet)), False)
            self.assertGreater(many, 10)

    def test_a_mark_none_and_the_other_way_round(self):
        way, sheet = Lists(3, 3, None, (1, 3)), sheet_in("5 a, 3 b, 1 c")
        for place in range(3):
            for hand in range(3):
                paper = way.counted(sheet)
                marks = paper[2][place][0]
                marks[hand] = (1, 1) if marks[hand] is None else None
                self.assertIs(ListsChecker(way).right(sheet, paper), False)

    def test_marks_not_in_lowest_terms(self):
        way = Lists(3, 4)
        for place in range(4):
            for hand in range(3):
                paper = way.counted(DOCUMENT)
                top, bottom = paper[2][place][0][hand]
                paper[2][place][0][hand] = (2 * top, 2 * bottom)
                self.assertIs(ListsChecker(way).right(DOCUMENT, paper), False)

    def test_another_sheets_or_ways_paper(self):
        paper = Lists(3, 4).counted(DOCUMENT)
        self.assertIs(ListsChecker(Lists(3, 4)).right(DOCUMENT, paper), True)
        self.assertIs(ListsChecker(Lists(3, 4)).right(sheet_in("6 a, 3 b, 1 c, 3 "), paper), False)
        for other in (Lists(3, 3), Lists(3, 5), Lists(3, 4, [1, 0, 2]), Lists(3, 4, None, (1, 2)),
                      Lists(3, 4, None, None, 2)):
            self.assertIs(ListsChecker(other).right(DOCUMENT, paper), False)


if __name__ == "__main__":
    unittest.main()
