import copy
import heapq
import itertools
import random
import unittest
from fractions import Fraction

from pollproof.cases import SeatsMargin, need
from pollproof.errors import TooHard
from pollproof.margins import Margin
from pollproof.seats import Seats
from pollproof.sheets import ballots_in, changed
from things import (
    House, all_sheets, nearest_other, outcome_by, seats_by, sheet_in, some_sheet, tallies_by, together, told_fraction,
)


def need_by(way, quota, tally, standing, deed):
    """The least k, sought one by one."""
    word, h = deed
    for k in itertools.count():
        if word == "seat":
            fits = k >= quota - tally[h]
            for x in standing:
                gap = tally[x] - tally[h]
                fits = fits and (x == h or (2 * k > gap if way.ahead(x, h) else 2 * k >= gap))
        else:
            fits = all(k > tally[x] - quota for x in standing)
            for x in standing:
                gap = tally[h] - tally[x]
                fits = fits and (x == h or (2 * k > gap if way.ahead(h, x) else 2 * k >= gap))
        if fits:
            return k


class Rows:
    """Rows of deeds of one sheet, reckoned with Python's Fractions; a row's need is kept once it is known."""

    def __init__(self, way, sheet):
        self.way, self.sheet = way, sheet
        self.quota = sum(number for _, number in sheet) // (way.seats + 1) + 1
        self.outcome = seats_by(sheet, way.hands, way.seats, way.lots)
        self.needs = {(): 0}

    def left(self, row):
        standing = [hand for hand in range(self.way.hands) if hand not in [deed[1] for deed in row]]
        return standing, self.way.seats - len([deed for deed in row if deed[0] == "seat"])

    def ended(self, row):
        standing, places = self.left(row)
        return len(standing) <= places or places == 0

    def end(self, row):
        standing, places = self.left(row)
        seated = [hand for word, hand in row if word == "seat"] + (standing if len(standing) <= places else [])
        return [int(hand in seated) for hand in range(self.way.hands)]

    def on(self, row):
        tally = tallies_by(self.sheet, self.way.hands, self.quota, row)
        standing, _ = self.left(row)
        rows = [row + ((word, hand),) for hand in standing for word in ("seat", "out")]
        for new in rows:
            if new not in self.needs:
                own = need_by_leaps(self.way, self.quota, tally, standing, new[-1])
                self.needs[new] = max(self.needs[row], own)
        return rows

    def word(self, row, low):
        if self.ended(row):
            return "same" if self.end(row) == self.outcome else "other"
        return "open" if self.needs[row] < low else "shut"

    def low_of_all(self):
        """The least need of all ended rows with another end, every row gone through."""
        waiting, least = [()], None
        while waiting:
            row = waiting.pop()
            if not self.ended(row):
                waiting += self.on(row)
            elif self.end(row) != self.outcome:
                least = self.needs[row] if least is None else min(least, self.needs[row])
        return least

    def paper(self, low):
        """All cases of the paper for a low, as a set."""
        waiting, cases = [()], set()
        while waiting:
            row = waiting.pop()
            cases.add((row, self.needs[row], self.word(row, low)))
            if self.word(row, low) == "open":
                waiting += self.on(row)
        return cases

    def search(self):
        """The search of 7.9: (low, None), or (None, at_least) where it is too hard."""
        made = itertools.count()
        waiting, opened = [(0, 0, next(made), ())], 0
        while True:
            own, _, _, row = heapq.heappop(waiting)
            if self.ended(row):
                if self.end(row) != self.outcome:
                    return own, None
            elif opened == 100:
                return None, own
            else:
                opened += 1
                for new in self.on(row):
                    heapq.heappush(waiting, (self.needs[new], -len(new), next(made), new))


def need_by_leaps(way, quota, tally, standing, deed):
    """As need_by, by leaps instead of one by one: True of k is True of all above it."""
    low, high = -1, 1
    while not is_enough(way, quota, tally, standing, deed, high):
        low, high = high, high * 2
    while high - low > 1:
        middle = (low + high) // 2
        low, high = (low, middle) if is_enough(way, quota, tally, standing, deed, middle) else (middle, high)
    return high


def is_enough(way, quota, tally, standing, deed, k):
    word, h = deed
    others = [x for x in standing if x != h]
    if word == "seat":
        gaps = [(tally[x] - tally[h], way.ahead(x, h)) for x in others]
        first = k >= quota - tally[h]
    else:
        gaps = [(tally[h] - tally[x], way.ahead(h, x)) for x in others]
        first = all(k > tally[x] - quota for x in standing)
    return first and all(2 * k > gap if above else 2 * k >= gap for gap, above in gaps)


def some_elections(many, hands_from, hands_to, lines=6, numbers=(1, 3, 20)):
    dice = random.Random(77)
    for _ in range(many):
        hands = dice.randint(hands_from, hands_to)
        way = Seats(hands, dice.randint(1, min(6, hands - 1)), dice.sample(range(hands), hands))
        yield way, some_sheet(dice, hands, dice.randint(1, lines), dice.choice(numbers))


def race(hands, first):
    """A hand far ahead, whom all the others' ballots name next: the others may fall in many orders."""
    return [((1,), first)] + [((2 ** hand, 1), 6 + hand % 3) for hand in range(1, hands)]


def some_races(many):
    dice = random.Random(78)
    for _ in range(many):
        hands = dice.randint(5, 7)
        sheet = [((1,), dice.randint(1, 30))] + [((2 ** hand, 1), dice.randint(1, 12)) for hand in range(1, hands)]
        yield Seats(hands, dice.choice([1, 1, 1, 2]), dice.sample(range(hands), hands)), sheet


class Need(House):
    def test_against_the_least_sought_one_by_one(self):
        dice = random.Random(76)
        for _ in range(2500):
            hands = dice.randint(1, 5)
            way = Seats(hands, dice.randint(1, 4), dice.sample(range(hands), hands))
            tally = [Fraction(dice.randint(0, 40), dice.choice([1, 1, 2, 3, 12])) for _ in range(hands + 1)]
            if dice.randint(0, 1):
                tally = [Fraction(dice.randint(0, 3)) for _ in range(hands + 1)]
            standing = sorted(dice.sample(range(hands), dice.randint(1, hands)))
            ballots = dice.randint(0, 60)
            deed = (dice.choice(["seat", "out"]), dice.choice(standing))
            sums = [told_fraction(value) for value in tally]
            kept = list(sums)
            told = need(way, ballots, sums, sum(2 ** hand for hand in standing), deed)
            self.assertEqual(told, need_by(way, ballots // (way.seats + 1) + 1, tally, standing, deed))
            self.assertEqual(sums, kept)

    def test_known_ones(self):
        way, turned = Seats(2, 1), Seats(2, 1, [1, 0])
        sums = [(6, 1), (3, 1), (0, 1)]
        for deed, wanted, otherwise in [(("seat", 0), 0, 0), (("seat", 1), 2, 2), (("out", 0), 2, 2),
                                        (("out", 1), 2, 2)]:
            self.assertEqual(need(way, 9, sums, 3, deed), wanted)
            self.assertEqual(need(turned, 9, sums, 3, deed), otherwise)
        level = [(4, 1), (4, 1), (0, 1)]
        self.assertEqual([need(way, 8, level, 3, ("out", hand)) for hand in (0, 1)], [1, 0])
        self.assertEqual([need(turned, 8, level, 3, ("out", hand)) for hand in (0, 1)], [0, 1])
        self.assertEqual([need(way, 8, level, 3, ("seat", hand)) for hand in (0, 1)], [1, 1])
        self.assertEqual(need(way, 5, [(5, 2), (5, 2), (0, 1)], 3, ("seat", 1)), 1)
        self.assertEqual(need(way, 3, [(3, 1), (0, 1), (0, 1)], 3, ("seat", 1)), 2)

    def test_hands_that_stand_no_more_do_not_matter(self):
        way = Seats(3, 1)
        sums = [(9, 1), (1, 1), (2, 1), (0, 1)]
        self.assertEqual(need(way, 12, sums, 6, ("out", 1)), 0)
        self.assertEqual(need(way, 12, sums, 7, ("out", 1)), 3)
        self.assertEqual(need(way, 12, sums, 6, ("seat", 2)), 5)
        self.assertEqual(need(way, 2, sums, 2, ("seat", 1)), 1)
        self.assertEqual(need(way, 0, sums, 2, ("seat", 1)), 0)

    def test_great_numbers(self):
        way = Seats(2, 1)
        sums = [(10 ** 12, 1), (0, 1), (0, 1)]
        self.assertEqual(need(way, 10 ** 12, sums, 3, ("seat", 1)), 10 ** 12 // 2 + 1)
        self.assertEqual(need(way, 10 ** 12, sums, 3, ("out", 0)), 10 ** 12 // 2 + 1)
        self.assertEqual(need(way, 10 ** 12, [(10 ** 60 + 1, 10 ** 60), (1, 1), (0, 1)], 3, ("out", 0)), 1)


class Low(House):
    def test_it_is_a_margin(self):
        way = Seats(2, 1)
        self.assertIsInstance(SeatsMargin(way), Margin)
        self.assertIs(SeatsMargin(way).way, way)
        self.assertEqual(SeatsMargin(way).slip_for(0, 1), (2,))

    def test_against_all_rows_one_by_one(self):
        for way, sheet in some_elections(120, 2, 3):
            kept = list(sheet)
            low, _ = SeatsMargin(way).least(sheet)
            self.assertEqual(low, Rows(way, sheet).low_of_all())
            self.assertGreaterEqual(low, 1)
            self.assertEqual(sheet, kept)

    def test_four_hands_all_rows(self):
        for way, sheet in some_elections(10, 4, 4):
            self.assertEqual(SeatsMargin(way).least(sheet)[0], Rows(way, sheet).low_of_all())

    def test_the_paper(self):
        for way, sheet in some_elections(60, 2, 5):
            rows = Rows(way, sheet)
            low, paper = SeatsMargin(way).least(sheet)
            self.assertIs(type(paper), list)
            self.assertEqual(len(paper), len(set(paper)))
            self.assertEqual(set(paper), rows.paper(low))
            words = {word for _, _, word in paper}
            self.assertIn("other", words)
            self.assertIn(((), 0, "open"), paper)

    def test_an_opened_case_of_need_low_is_shut(self):
        seen = 0
        for way, sheet in some_elections(150, 3, 5, 4, (1, 1, 2)):
            low, paper = SeatsMargin(way).least(sheet)
            self.assertEqual(set(paper), Rows(way, sheet).paper(low))
            seen += any(own == low and word == "shut" for _, own, word in paper)
        self.assertGreater(seen, 20)

    def test_no_ballots_prefer_anyone(self):
        self.assertEqual(SeatsMargin(Seats(2, 1)).least([((), 4)]),
                         (1, [((), 0, "open"), ((("seat", 0),), 3, "same"), ((("out", 0),), 1, "other"),
                              ((("seat", 1),), 3, "other"), ((("out", 1),), 0, "same")]))


class Search(House):
    def assert_searched(self, way, sheet):
        low, at_least = Rows(way, sheet).search()
        if low is None:
            error = self.refuses(TooHard, SeatsMargin(way).least, sheet)
            self.assertEqual(error.at_least, at_least)
            self.assertGreaterEqual(error.at_least, 1)
            self.assertEqual(self.refuses(TooHard, SeatsMargin(way).told, sheet).at_least, at_least)
            return True
        self.assertEqual(SeatsMargin(way).least(sheet)[0], low)
        return False

    def test_too_hard_or_not_by_the_very_search(self):
        hard = [self.assert_searched(way, sheet) for way, sheet in some_races(90)]
        self.assertTrue(10 < sum(hard) < 80, sum(hard))
        for way, sheet in some_elections(40, 5, 7, 5):
            self.assert_searched(way, sheet)

    def test_just_a_hundred(self):
        # The first sheet's search is done when a hundred cases have been opened, the others' by one more.
        self.assertEqual(SeatsMargin(Seats(6, 1)).least(sheet_in("21 a, 13 b>a, 11 c>a, 7 d>a, 14 e>b, 3 f>a"))[0], 8)
        for hands, text in [(6, "11 a, 9 b>a, 2 c>a, 5 d>a, 6 e>a, 11 f>c"),
                            (6, "7 a, 1 b>a, 3 c>a, 5 d>a, 4 e>a, 4 f>a"),
                            (7, "10 a, 11 b>a, 13 c>a, 3 d>a, 14 e>a, 7 f>a, 9 g>b")]:
            self.assertTrue(self.assert_searched(Seats(hands, 1), sheet_in(text)))

    def test_the_order_of_waiting_cases(self):
        # Of all these the end would be another one, were alike needs taken in another order.
        for hands, seats, low, text in [
            (6, 1, 12, "30 a, 7 b>a, 1 c>a, 9 d>a, 10 e>a, 1 f>b"),
            (6, 1, 6, "16 a, 5 b>a, 8 c>a, 9 d>a, 2 e>c, 6 f>c"),
            (7, 2, 1, "7 a, 14 b>a, 6 c>a, 6 d>a, 7 e>c, 8 f>a, 7 g>b"),
            (7, 1, 2, "5 a, 5 b>a, 2 c>a, 10 d>a, 2 e>a, 6 f>a, 9 g>a"),
            (6, 3, 3, "10 a, 3 b>a, 9 c>a, 3 d>a, 4 e>c, 13 f>c"),
            (8, 2, 1, "5 a, 10 b>a, 5 c>a, 6 d>c, 9 e>a, 10 f>a, 14 g>c, 6 h>a"),
            (7, 2, 2, "8 a, 1 b>a, 1 c>a, 5 d>b, 11 e>c, 9 f>a, 3 g>a"),
            (7, 1, 4, "11 a, 10 b>a, 1 c>a, 11 d>a, 10 e>c, 1 f>b, 5 g>a"),
            (6, 1, 8, "21 a, 14 b>a, 7 c>a, 14 d>a, 12 e>a, 6 f>a"),
        ]:
            with self.subTest(text=text):
                self.assertFalse(self.assert_searched(Seats(hands, seats), sheet_in(text)))
                self.assertEqual(SeatsMargin(Seats(hands, seats)).least(sheet_in(text))[0], low)
        for hands, seats, text in [
            (8, 1, "8 a, 5 b>a, 13 c>a, 11 d>a, 7 e>a, 7 f>a, 9 g>c, 6 h>b"),
            (8, 3, "1 a, 1 b>a, 5 c>a, 12 d>b, 14 e>a, 6 f>a, 14 g>a, 4 h>a"),
        ]:
            self.assertTrue(self.assert_searched(Seats(hands, seats), sheet_in(text)))

    def test_eight_and_twelve_hands(self):
        dice = random.Random(791)
        for hands in (8, 12):
            self.assertTrue(self.assert_searched(Seats(hands, 1), race(hands, 40)))
            self.assert_searched(Seats(hands, 2), some_sheet(dice, hands, 5, 9))

    def test_never_with_up_to_four_hands(self):
        dice = random.Random(792)
        for hands in (2, 3, 4):
            for seats in range(1, hands):
                sheets = [[((), 7)], [((2 ** hands - 1,), 9)], [((2 ** hand,), 50) for hand in range(hands)]]
                sheets += [some_sheet(dice, hands, 8, most) for most in (1, 5, 100) for _ in range(12)]
                for sheet in sheets:
                    low, paper = SeatsMargin(Seats(hands, seats, dice.sample(range(hands), hands))).least(sheet)
                    self.assertGreaterEqual(low, 1)


class BothSides(House):
    def assert_both_sides(self, way, sheet, sheets, outcomes):
        low, high, paper, change = SeatsMargin(way).told(sheet)
        true = nearest_other(way, sheet, sheets, outcomes)
        self.assertTrue(1 <= low <= true <= high, (way.hands, way.seats, way.lots, sheet, low, true, high))
        self.assertEqual(sum(number for _, _, number in change), high)
        self.assertNotEqual(outcome_by(way, changed(sheet, change)), outcome_by(way, sheet))
        return low, true, high

    def test_two_hands_one_seat_all_changes(self):
        for ballots in (1, 2, 3, 4):
            sheets = all_sheets(2, ballots)
            for lots in ([0, 1], [1, 0]):
                way = Seats(2, 1, lots)
                outcomes = [outcome_by(way, sheet) for sheet in sheets]
                for sheet in sheets:
                    low, true, high = self.assert_both_sides(way, sheet, sheets, outcomes)
                    self.assertEqual((low, high), (true, true))

    def test_two_hands_greater_sheets(self):
        dice = random.Random(772)
        for _ in range(200):
            way = Seats(2, 1, dice.sample([0, 1], 2))
            sheet = some_sheet(dice, 2, 5, dice.choice([2, 9, 10 ** 11]))
            low, high, _, _ = SeatsMargin(way).told(sheet)
            self.assertEqual(low, high)

    def test_three_hands_all_changes(self):
        dice = random.Random(773)
        for ballots, some in ((1, 26), (2, 60), (3, 12)):
            sheets = all_sheets(3, ballots)
            for seats in (1, 2):
                way = Seats(3, seats, dice.sample(range(3), 3))
                outcomes = [way.outcome(sheet) for sheet in sheets]
                for sheet in dice.sample(sheets, some):
                    self.assert_both_sides(way, sheet, sheets, outcomes)

    def test_not_possible(self):
        for way, sheet in [(Seats(2, 2), [((1,), 3)]), (Seats(3, 6), [((1,), 3)]), (Seats(3, 1), []),
                           (Seats(1, 1), [])]:
            self.assertIsNone(SeatsMargin(way).told(sheet))
        for sheet in all_sheets(2, 3):
            self.assertEqual(Seats(2, 2).outcome(sheet), [1, 1])


class Held(House):
    def test_by_low(self):
        for way, sheet in some_elections(60, 2, 4):
            margin = SeatsMargin(way)
            low, _ = margin.least(sheet)
            for unseen in (0, 1, low - 1, low, low + 1, ballots_in(sheet)):
                self.assertIs(margin.held([], unseen, sheet), low > unseen or unseen == 0)

    def test_too_hard(self):
        way, sheet = Seats(8, 1), race(8, 40)
        at_least = self.refuses(TooHard, SeatsMargin(way).least, sheet).at_least
        self.assertGreater(at_least, 2)
        for unseen in (0, 1, at_least - 1):
            self.assertIs(SeatsMargin(way).held([], unseen, sheet), True)
        for unseen in (at_least, at_least + 1, 600):
            self.assertIs(SeatsMargin(way).held([], unseen, sheet), False)

    def test_true_only_where_no_ballots_make_another_outcome(self):
        dice = random.Random(774)
        held = 0
        for _ in range(120):
            hands, unseen = dice.choice([(2, 1), (2, 2), (3, 1), (3, 2)])
            way = Seats(hands, dice.randint(1, hands), dice.sample(range(hands), hands))
            seen = some_sheet(dice, hands, 3, 6)
            others = all_sheets(hands, unseen)
            known = together(seen, dice.choice(others))
            if SeatsMargin(way).held(seen, unseen, known):
                held += 1
                own = way.outcome(known)
                self.assertTrue(all(way.outcome(together(seen, other)) == own for other in others))
        self.assertGreater(held, 30)


class Shows(House):
    def setUp(self):
        self.way = Seats(3, 1)
        self.margin = SeatsMargin(self.way)
        self.sheet = sheet_in("7 a>b, 4 b>a, 3 c")
        self.low, self.paper = self.margin.least(self.sheet)

    def assert_wrong(self, paper, low=None):
        kept = list(paper)
        self.assertIs(self.margin.shows(self.sheet, self.low if low is None else low, paper), False)
        self.assertEqual(paper, kept)

    def full(self, low, open_all=False):
        """A paper with each row that isn't ended open, or as least tells it."""
        rows = Rows(self.way, self.sheet)
        waiting, cases = [()], []
        while waiting:
            row = waiting.pop()
            word = "open" if open_all and not rows.ended(row) else rows.word(row, low)
            cases.append((row, rows.needs[row], word))
            if word == "open":
                waiting += rows.on(row)
        return cases

    def test_the_own_paper_in_any_order(self):
        dice = random.Random(710)
        for way, sheet in some_elections(60, 2, 5):
            margin = SeatsMargin(way)
            try:
                low, paper = margin.least(sheet)
            except TooHard:
                continue
            kept = copy.deepcopy((sheet, paper))
            self.assertIs(margin.shows(sheet, low, paper), True)
            self.assertIs(margin.shows(sheet, low, paper[::-1]), True)
            self.assertIs(margin.shows(sheet, low, dice.sample(paper, len(paper))), True)
            for less in (low - 1, 1, 0, -1, -10 ** 50):
                self.assertIs(margin.shows(sheet, less, paper), True)
            for more in (low + 1, low + 2, 10 ** 50):
                self.assertIs(margin.shows(sheet, more, paper), False)
            self.assertEqual((sheet, paper), kept)

    def test_papers_made_otherwise(self):
        for low in range(-1, self.low + 1):
            self.assertIs(self.margin.shows(self.sheet, low, self.full(low)), True)
            self.assertIs(self.margin.shows(self.sheet, low, self.full(low, True)), True)
        self.assert_wrong(self.full(self.low + 1), self.low + 1)
        self.assert_wrong(self.full(self.low + 1, True), self.low + 1)

    def test_a_row_twice(self):
        for case in self.paper:
            self.assert_wrong(self.paper + [case])
            self.assert_wrong([case] + self.paper)
            self.assert_wrong(self.paper + [(case[0], case[1] + 1, case[2])])
            self.assert_wrong(self.paper + [(case[0], case[1], "open")])

    def test_a_row_lacking(self):
        self.assert_wrong([])
        self.assert_wrong([], -5)
        for place in range(len(self.paper)):
            self.assert_wrong(self.paper[:place] + self.paper[place + 1:])
            self.assert_wrong(self.paper[:place] + self.paper[place + 1:], -5)

    def test_one_case_alone(self):
        self.assert_wrong([((), 0, "open")])
        self.assert_wrong([((), 0, "shut")])
        self.assertIs(self.margin.shows(self.sheet, 0, [((), 0, "shut")]), True)
        self.assertIs(self.margin.shows(self.sheet, -3, [((), 0, "shut")]), True)
        self.assert_wrong([((), 0, "same")], -5)
        self.assert_wrong([((), 0, "other")], -5)
        self.assert_wrong([((), 1, "shut")], 0)

    def test_needs(self):
        for place, (row, own, word) in enumerate(self.paper):
            for wrong in (own + 1, own - 1, -own - 1, own + 10 ** 40):
                self.assert_wrong(self.paper[:place] + [(row, wrong, word)] + self.paper[place + 1:])
                self.assert_wrong(self.paper[:place] + [(row, wrong, word)] + self.paper[place + 1:], -5)

    def test_words(self):
        self.assertEqual({word for _, _, word in self.paper}, {"open", "shut", "same", "other"})
        for place, (row, own, word) in enumerate(self.paper):
            for wrong in ("open", "shut", "same", "other", "", "Open", "closed", "seat"):
                if wrong != word:
                    self.assert_wrong(self.paper[:place] + [(row, own, wrong)] + self.paper[place + 1:])

    def test_words_of_ended_and_other_rows_with_a_low_beneath_all(self):
        for place, (row, own, word) in enumerate(self.paper):
            for wrong in ("open", "shut", "same", "other", ""):
                paper = self.paper[:place] + [(row, own, wrong)] + self.paper[place + 1:]
                if wrong != word:
                    # An open row without open ones behind it may as well be shut, if its rows are taken away.
                    self.assertIs(self.margin.shows(self.sheet, -5, paper), False)

    def test_rows_that_go_on_from_no_open_one(self):
        ended = [row for row, _, word in self.paper if word in ("same", "other")]
        shut = [row for row, _, word in self.paper if word == "shut"]
        rows = Rows(self.way, self.sheet)
        for row in shut:
            for case in self.full(0, True):
                rows.needs[case[0]] = case[1]
            for new in rows.on(row):
                for word in ("open", "shut", "same", "other"):
                    self.assert_wrong(self.paper + [(new, rows.needs[new], word)])
        for row in ended:
            for hand in range(-1, 4):
                for word in ("open", "shut", "same", "other"):
                    self.assert_wrong(self.paper + [(row + (("out", hand),), 99, word)])

    def test_rows_that_are_none(self):
        for deeds in [(("seat", 3),), (("out", -1),), (("out", 10 ** 40),), (("rest", 0),), (("", 0),), (("end", 1),),
                      (("out", 0), ("out", 0)), (("out", 0), ("seat", 0)), (("out", 1),) * 12]:
            for word in ("open", "shut", "same", "other"):
                for own in (0, 1, 99):
                    self.assert_wrong(self.paper + [(deeds, own, word)])
                    self.assert_wrong(self.paper + [(deeds, own, word)], -5)

    def test_deeds_put_otherwise(self):
        for place, (row, own, word) in enumerate(self.paper):
            for at in range(len(row)):
                for deed in (("seat", 0), ("seat", 1), ("out", 2), ("out", 0), ("out", 7), ("seat", -1), ("rest", 1)):
                    if deed != row[at]:
                        other = row[:at] + (deed,) + row[at + 1:]
                        self.assert_wrong(self.paper[:place] + [(other, own, word)] + self.paper[place + 1:])

    def test_a_shut_row_may_be_opened(self):
        shut = [case for case in self.paper if case[2] == "shut"]
        whole = {row: (own, word) for row, own, word in self.full(self.low, True)}
        rows = Rows(self.way, self.sheet)
        for row, own, _ in shut:
            paper = [case for case in self.paper if case[0] != row] + [(row, own, "open")]
            self.assert_wrong(paper)
            for new in [new for new in whole if len(new) == len(row) + 1 and new[:-1] == row]:
                word = whole[new][1] if rows.ended(new) else "shut"
                paper.append((new, whole[new][0], word))
            self.assertIs(self.margin.shows(self.sheet, self.low, paper), True)
            self.assert_wrong(paper[:-1])

    def test_another_sheets_paper(self):
        self.assertIs(self.margin.shows(sheet_in("7 a>b, 4 b>a, 5 c"), self.low, self.paper), False)
        self.assertIs(SeatsMargin(Seats(3, 2)).shows(self.sheet, self.low, self.paper), False)

    def test_an_other_row_below_low(self):
        others = [own for _, own, word in self.paper if word == "other"]
        self.assertEqual(min(others), self.low)
        self.assert_wrong(self.full(self.low, True), self.low + 1)


if __name__ == "__main__":
    unittest.main()
