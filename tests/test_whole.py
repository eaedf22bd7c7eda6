"""What the document promises of the whole program, at the desk and beneath it."""

import copy
import itertools
import random
import unittest
from fractions import Fraction

from pollproof.boxes import Box
from pollproof.cases import SeatsMargin
from pollproof.codes import code_of
from pollproof.desk import Desk
from pollproof.errors import PollError, TooHard, Torn
from pollproof.listcheck import ListsChecker
from pollproof.listmargin import ListsMargin
from pollproof.lists import Lists
from pollproof.looks import Look
from pollproof.paircheck import PairsChecker
from pollproof.pairmargin import PairsMargin
from pollproof.pairs import Pairs
from pollproof.seals import seal_of
from pollproof.seatcheck import SeatsChecker
from pollproof.seats import Seats
from pollproof.sheets import ballots_in, changed, joined, sheet_of
from things import House, all_sheets, all_slips, altered, ballots_apart, leads_by, some_sheet, some_slip, together

NAMES = ["ann", "bob", "cy", "dan"]


def ways_for(dice, hands, seats):
    lots = dice.sample(range(hands), hands)
    return [Seats(hands, seats, lots), Pairs(hands, seats, lots),
            Lists(hands, seats, lots, dice.choice([None, (1, 3)]), dice.randint(1, 2))]


def checker_of(way):
    if isinstance(way, Seats):
        return SeatsChecker(way)
    return PairsChecker(way) if isinstance(way, Pairs) else ListsChecker(way)


def margin_of(way):
    if isinstance(way, Seats):
        return SeatsMargin(way)
    return PairsMargin(way) if isinstance(way, Pairs) else ListsMargin(way)


def line_text(slip, number):
    tiers = ["=".join(NAMES[hand] for hand in range(4) if tier >> hand & 1) for tier in slip]
    return f"{number}:" + ">".join(tiers)


def desk_with(hands, *sheets):
    desk = Desk()
    desk.say("poll " + " ".join(NAMES[:hands]))
    for sheet in sheets:
        desk.say(" ".join(["bundle"] + [line_text(slip, number) for slip, number in sheet]))
    return desk


class Papers(House):
    def test_they_show_the_outcome(self):
        dice = random.Random(1)
        for _ in range(40):
            hands = dice.randint(1, 5)
            sheet = some_sheet(dice, hands, 6, 30)
            seats, pairs, lists = ways_for(dice, hands, dice.randint(1, 4))
            for table, tallies, _ in seats.counted(sheet):
                self.assertTrue(all(sum(Fraction(*share) for share in row) == 1 for row in table))
                self.assertEqual(sum(Fraction(*tally) for tally in tallies), ballots_in(sheet))
            leads = leads_by(sheet, hands)
            for x, y, strong, way, cut in pairs.counted(sheet)[1]:
                self.assertEqual(min(leads[a][b] for a, b in zip(way, way[1:])), strong)
                self.assertTrue(all(leads[a][b] <= strong for a in range(hands) for b in range(hands)
                                    if cut >> a & 1 and not cut >> b & 1))
            for marks, hand in lists.counted(sheet)[2]:
                self.assertTrue(all(Fraction(*mark) <= Fraction(*marks[hand]) for mark in marks if mark is not None))

    def test_a_checker_lets_by_just_what_is_right(self):
        dice = random.Random(2)
        for _ in range(12):
            hands = dice.randint(2, 3)
            sheet = some_sheet(dice, hands, 3, 5)
            for way in ways_for(dice, hands, dice.randint(1, 2)):
                checker, paper, outcome = checker_of(way), way.counted(sheet), way.outcome(sheet)
                self.assertIs(checker.passes(sheet, paper, outcome), True)
                self.assertIs(checker.passes(sheet, paper, outcome[::-1] + [0]), False)
                for other in altered(paper):
                    if checker.right(sheet, other):
                        # Only pairs can be shown otherwise, and the outcome stays.
                        self.assertTrue(other == paper or isinstance(way, Pairs))
                        self.assertEqual(way.told_by(other), outcome)


class Margins(House):
    def test_beneath_the_desk(self):
        dice = random.Random(3)
        for hands, ballots in ((2, 4), (3, 2)):
            sheets = all_sheets(hands, ballots)
            for seats in (1, 2, 3):
                for way in ways_for(dice, hands, seats):
                    ends = [way.outcome(sheet) for sheet in sheets]
                    for place in dice.sample(range(len(sheets)), 25):
                        sheet = sheets[place]
                        others = [ballots_apart(sheet, other) for other, end in zip(sheets, ends) if end != ends[place]]
                        told = margin_of(way).told(sheet)
                        self.assertEqual(told is None, others == [])
                        if told is not None:
                            low, high, paper, change = told
                            self.assertTrue(1 <= low <= min(others) <= high)
                            self.assertNotEqual(way.outcome(changed(sheet, change)), ends[place])
                            self.assertEqual(ballots_apart(sheet, changed(sheet, change)), high)
                            self.assertIs(margin_of(way).shows(sheet, low, paper), True)
                            if isinstance(way, Lists) or (hands, seats) == (2, 1):
                                self.assertEqual(low, high)

    def test_at_the_desk(self):
        dice = random.Random(4)
        for hands, ballots in ((2, 3), (3, 2)):
            sheets = all_sheets(hands, ballots)
            for row in ("seats 1", "pairs 1", "lists 2 1/3 1", "seats 2", "pairs 3"):
                ends = [desk_with(hands, sheet).say(row) for sheet in sheets]
                for place in dice.sample(range(len(sheets)), 20):
                    others = [ballots_apart(sheets[place], other)
                              for other, end in zip(sheets, ends) if end != ends[place]]
                    told = desk_with(hands, sheets[place]).say("margin " + row)
                    if others == []:
                        self.assertEqual(told, "none")
                    else:
                        low, high = [int(number) for number in told.split(" ")]
                        self.assertTrue(1 <= low <= min(others) <= high)
                        if row[0] == "l" or hands == 2:
                            self.assertEqual(low, high)

    def test_never_hard_for_one_to_four_hands(self):
        dice = random.Random(5)
        for _ in range(60):
            hands = dice.randint(1, 4)
            desk = desk_with(hands, some_sheet(dice, hands, 6, dice.choice([1, 9, 10 ** 9])))
            for seats in range(1, 7):
                self.assertFalse(desk.say(f"margin seats {seats}").startswith("hard"))

    def test_what_a_hard_one_bears_is_true(self):
        sheet = [((1,), 9)] + [((2 ** hand, 1), 2) for hand in range(1, 7)]
        margin = SeatsMargin(Seats(7, 1))
        at_least = self.refuses(TooHard, margin.told, sheet).at_least
        self.assertGreaterEqual(at_least, 1)
        dice = random.Random(51)
        ballots = [slip for slip, number in sheet for _ in range(number)]
        for _ in range(200):
            taken = dice.sample(ballots, at_least - 1)
            rows = [(old, new, 1) for old, new in zip(taken, [some_slip(dice, 7) for _ in taken]) if old != new]
            self.assertEqual(margin.way.outcome(changed(sheet, rows)), margin.way.outcome(sheet))


class Looking(House):
    def test_sure_only_where_nothing_unseen_matters(self):
        dice = random.Random(6)
        words, early = set(), 0
        for _ in range(80):
            parts = [some_sheet(dice, 2, 2, 2) for _ in range(3)]
            sheet = joined(parts)
            for row in ("seats 1", "pairs 1", "lists 2 1/4 1"):
                desk, order = desk_with(2, *parts), dice.randint(0, 5)
                told = desk_with(2, sheet).say(row)
                answer, seen, left = desk.say(f"look {order} {row}"), [], [0, 1, 2]
                while answer.startswith("open"):
                    self.assert_open(row, told, seen, parts, left)
                    due = int(answer.split(" ")[1])
                    left.remove(due)
                    found = parts[due] if dice.randint(0, 1) else dice.choice(all_sheets(2, ballots_in(parts[due])))
                    seen = together(seen, found)
                    answer = desk.say(" ".join(["found"] + [line_text(slip, number) for slip, number in found]))
                words.add(answer)
                ends = self.ends(row, seen, sum(ballots_in(parts[k]) for k in left))
                self.assertTrue(all((end == told) == (answer == "sure") for end in ends))
                early += len(ends) > 1
        self.assertEqual(words, {"sure", "otherwise"})
        self.assertGreater(early, 20)

    def ends(self, row, seen, unseen):
        """What may come of it; nothing where there are too many ballots to go through them all."""
        return [desk_with(2, seen, other).say(row) for other in all_sheets(2, unseen)] if unseen < 5 else []

    def assert_open(self, row, told, seen, parts, left):
        unseen = sum(ballots_in(parts[k]) for k in left)
        known = desk_with(2, seen, *[parts[k] for k in left]).say(row)
        # For lists it is sure as soon as that is true.
        if row[0] == "l" and known == told and unseen < 5:
            self.assertTrue(any(end != told for end in self.ends(row, seen, unseen)))

    def test_nothing_handed_in_is_changed(self):
        dice = random.Random(7)
        for _ in range(30):
            hands = dice.randint(2, 4)
            sheet, seen = some_sheet(dice, hands, 5, 9), some_sheet(dice, hands, 3, 4)
            known, kept = together(seen, sheet), copy.deepcopy((sheet, seen))
            for way in ways_for(dice, hands, 1):
                margin, paper = margin_of(way), way.counted(sheet)
                kept_paper = copy.deepcopy(paper)
                checker_of(way).passes(sheet, paper, way.outcome(sheet))
                low, high, shown, change = margin.told(sheet)
                kept_shown = copy.deepcopy(shown)
                margin.shows(sheet, low, shown)
                margin.held(seen, ballots_in(sheet), known)
                self.assertEqual((sheet, seen, paper, shown), kept + (kept_paper, kept_shown))


class Fairness(House):
    def test_groups(self):
        dice = random.Random(8)
        for _ in range(150):
            hands = 4
            inside = dice.sample(range(hands), dice.randint(1, 3))
            outside = [hand for hand in range(hands) if hand not in inside]
            solid = [(tuple(2 ** h for h in dice.sample(inside, len(inside)) + dice.sample(outside, len(outside))),
                      dice.randint(1, 9)) for _ in range(3)]
            rest = [(some_slip(dice, hands), dice.randint(1, 9)) for _ in range(3)]
            sheet, seats = sheet_of(solid + rest), dice.randint(1, 4)
            quota = ballots_in(sheet) // (seats + 1) + 1
            told = desk_with(hands, sheet).say(f"seats {seats}").split(" ")
            got = len([hand for hand in inside if NAMES[hand] + ":1" in told])
            self.assertGreaterEqual(got, min(sum(number for _, number in solid) // quota, len(inside)))

    def test_sets_that_beat_all_others(self):
        dice = random.Random(9)
        seen = 0
        for _ in range(150):
            sheet = some_sheet(dice, 4, 5, 9)
            leads = leads_by(sheet, 4)
            for group in range(1, 15):
                inside = [hand for hand in range(4) if group >> hand & 1]
                if all(leads[x][y] > 0 for x in inside for y in range(4) if y not in inside):
                    seen += 1
                    for seats in range(1, 5):
                        told = desk_with(4, sheet).say(f"pairs {seats}").split(" ")
                        got = [hand for hand in inside if NAMES[hand] + ":1" in told]
                        self.assertEqual(len(got), min(seats, len(inside)))
        self.assertGreater(seen, 100)

    def test_lists_that_go_together(self):
        dice = random.Random(10)
        for _ in range(150):
            votes = [dice.randint(0, 12) for _ in range(4)]
            seats = dice.randint(1, 9)
            one, other = sorted(dice.sample(range(4), 2))
            together_votes = [0 if hand == other else votes[hand] + votes[other] * (hand == one) for hand in range(4)]
            ends = []
            for each in (votes, together_votes):
                sheet = [((2 ** hand,), number) for hand, number in enumerate(each) if number]
                told = desk_with(4, sheet).say(f"lists {seats} 0/1 1")
                ends.append({} if told == "nobody" else dict(part.split(":") for part in told.split(" ")))
            apart = sum(int(ends[0].get(NAMES[hand], 0)) for hand in (one, other))
            self.assertGreaterEqual(int(ends[1].get(NAMES[one], 0)), apart)


class Bundles(House):
    def test_one_altered_line_is_put_right_and_two_are_refused(self):
        dice = random.Random(11)
        for _ in range(100):
            hands = dice.randint(1, 12)
            lines = [(some_slip(dice, hands), dice.randint(1, 10 ** 9)) for _ in range(dice.randint(2, 12))]
            codes = [code_of(line, hands) for line in lines]
            box, places = Box(hands), dice.sample(range(len(lines)), 2)
            wrong = list(codes)
            wrong[places[0]] = code_of((some_slip(dice, hands), dice.randint(1, 10 ** 9)), hands)
            place = places[0] + 1 if wrong != codes else 0
            self.assertEqual(box.take(wrong, seal_of(codes)), (0, place))
            self.assertEqual((box.lines_at(0), box.sheet()), (lines, sheet_of(lines)))
            wrong[places[0]] = codes[places[0]] + dice.choice([1, -1, 13, 10 ** 20])
            wrong[places[1]] = codes[places[1]] + dice.choice([1, -1, 13, 10 ** 20])
            self.refuses(Torn, box.take, wrong, seal_of(codes))
            self.assertEqual(box.many(), 1)


class Together(House):
    def test_from_bundles_to_a_sure_outcome(self):
        box = Box(3)
        for lines in ([((1, 2), 4), ((2, 1), 3)], [((4, 2), 2)], []):
            codes = [code_of(line, 3) for line in lines]
            box.take(codes, seal_of(codes))
        for way in (Seats(3, 1), Pairs(3, 1), Lists(3, 2)):
            sheet = box.sheet()
            self.assertIs(checker_of(way).passes(sheet, way.counted(sheet), way.outcome(sheet)), True)
            look = Look(margin_of(way), box, 4)
            while look.word() == "open":
                look.found(box.lines_at(look.due()))
            self.assertEqual(look.word(), "sure")

    def test_one_class_for_each_refusal(self):
        kinds = PollError.__subclasses__()
        self.assertEqual(sorted(kind.__name__ for kind in kinds), [
            "Ended", "NoBallot", "NoBundle", "NoChange", "NoNumber", "NoRow", "NoSheet", "NoWay", "TooHard", "Torn",
            "WrongNumber"])
        for one, other in itertools.permutations(kinds, 2):
            self.assertFalse(issubclass(one, other))

    def test_the_outcome_is_seats_by_hand(self):
        dice = random.Random(12)
        for sheet in [[]] + [[(slip, 2)] for slip in all_slips(2)]:
            for way in ways_for(dice, 2, 1):
                outcome = way.outcome(sheet)
                self.assertEqual((type(outcome), len(outcome)), (list, 2))
                self.assertTrue(all(type(seats) is int for seats in outcome))


if __name__ == "__main__":
    unittest.main()
