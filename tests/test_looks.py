import itertools
import math
import random
import unittest

from pollproof.boxes import Box
from pollproof.cases import SeatsMargin
from pollproof.codes import code_of
from pollproof.errors import Ended, NoSheet, WrongNumber
from pollproof.listmargin import ListsMargin
from pollproof.lists import Lists
from pollproof.looks import Look, drawn_by, order_of
from pollproof.margins import Margin
from pollproof.pairmargin import PairsMargin
from pollproof.pairs import Pairs
from pollproof.seals import seal_of
from pollproof.seats import Seats
from things import NO_WHOLES, House, all_sheets, outcome_by, sheet_by, some_sheet, together


def box_of(hands, *bundles):
    box = Box(hands)
    for lines in bundles:
        codes = [code_of(line, hands) for line in lines]
        box.take(codes, seal_of(codes))
    return box


def margins_for(dice, hands):
    lots = dice.sample(range(hands), hands)
    seats = dice.randint(1, hands)
    hurdle = dice.choice([None, (1, 3), (1, 2)])
    return [SeatsMargin(Seats(hands, seats, lots)), PairsMargin(Pairs(hands, seats, lots)),
            ListsMargin(Lists(hands, seats, lots, hurdle, dice.randint(1, 2))), Margin(Seats(hands, seats, lots)),
            Margin(Pairs(hands, seats, lots))]


class Orders(House):
    def test_the_documents_examples(self):
        self.assertEqual([order_of(number, 3) for number in (0, 1, 5, 6)],
                         [[0, 1, 2], [1, 0, 2], [2, 1, 0], [0, 1, 2]])
        self.assertEqual(order_of(7, 0), [])

    def test_all_of_three(self):
        self.assertEqual([order_of(number, 3) for number in range(6)],
                         [[0, 1, 2], [1, 0, 2], [2, 0, 1], [0, 2, 1], [1, 2, 0], [2, 1, 0]])

    def test_there_and_back_for_all_orders_of_up_to_five(self):
        for many in range(6):
            orders = [order_of(number, many) for number in range(math.factorial(many))]
            self.assertEqual(sorted(orders), [list(one) for one in itertools.permutations(range(many))])
            for number, order in enumerate(orders):
                kept = list(order)
                self.assertEqual(drawn_by(order), number)
                self.assertEqual(order, kept)

    def test_the_same_rest_the_same_order(self):
        for many in range(5):
            product = math.factorial(many)
            for one, other in itertools.product(range(60), range(60)):
                self.assertEqual(order_of(one, many) == order_of(other, many), one % product == other % product)

    def test_great_numbers(self):
        dice = random.Random(91)
        for many in (1, 12, 59, 60):
            for number in [0, 10 ** 99, 10 ** 100 - 1] + [dice.randint(0, 10 ** 100) for _ in range(20)]:
                order = order_of(number, many)
                self.assertEqual(sorted(order), list(range(many)))
                self.assertEqual(drawn_by(order), number % math.factorial(many))
                self.assertEqual(order_of(drawn_by(order), many), order)
        self.assertEqual(order_of(math.factorial(60) - 1, 60), list(range(59, -1, -1)))
        self.assertEqual(drawn_by([]), 0)

    def test_told_lists_are_new_ones(self):
        order_of(3, 4).clear()
        self.assertEqual(order_of(3, 4), [3, 0, 1, 2])


class Making(House):
    def test_no_bundles(self):
        for margin in (SeatsMargin(Seats(2, 1)), PairsMargin(Pairs(2, 1)), ListsMargin(Lists(2, 1)),
                       Margin(Seats(2, 1))):
            look = Look(margin, Box(2), 5)
            self.assertEqual((look.unlooked(), look.known(), look.word(), look.due()), (0, [], "sure", None))
            self.refuses(Ended, look.found, [])

    def test_bundles_without_ballots_alone(self):
        look = Look(ListsMargin(Lists(2, 1)), box_of(2, [], []), 1)
        self.assertEqual((look.unlooked(), look.known(), look.word(), look.due()), (0, [], "sure", None))
        self.refuses(Ended, look.found, [])

    def test_the_order_is_drawn(self):
        bundles = [[((1,), 1)], [((2,), 1)], [((1,), 1)], [((2,), 1)]]
        for number in range(30):
            look = Look(Margin(Pairs(2, 1)), box_of(2, *bundles), number)
            order = order_of(number, 4)
            for k in order:
                self.assertEqual((look.word(), look.due()), ("open", k))
                look.found(bundles[k])
            self.assertEqual((look.word(), look.due()), ("sure", None))

    def test_what_is_done_to_the_box_afterwards(self):
        box = box_of(2, [((1,), 3)], [((2,), 2)])
        look = Look(ListsMargin(Lists(2, 1)), box, 0)
        box.put_right(0, [((2,), 3)])
        codes = [code_of(((2,), 9), 2)]
        box.take(codes, seal_of(codes))
        self.assertEqual((look.unlooked(), look.known(), look.word(), look.due()),
                         (5, [((1,), 3), ((2,), 2)], "open", 0))
        self.assertEqual(look.found([((1,), 3)]), "sure")
        self.assertEqual(look.known(), [((1,), 3), ((2,), 2)])
        self.assertEqual(box.lines_at(0), [((2,), 3)])

    def test_a_look_changes_nothing_of_the_box(self):
        box = box_of(2, [((1,), 3)], [((2,), 2)])
        look = Look(ListsMargin(Lists(2, 1)), box, 1)
        look.found([((1,), 2)])
        self.assertEqual((box.lines_at(0), box.lines_at(1), box.many()), ([((1,), 3)], [((2,), 2)], 2))

    def test_two_looks_side_by_side(self):
        box = box_of(2, [((1,), 3)], [((2,), 2)])
        margin = ListsMargin(Lists(2, 1))
        one, other = Look(margin, box, 0), Look(margin, box, 1)
        one.found([((2,), 3)])
        self.assertEqual((one.word(), one.unlooked(), one.known()), ("otherwise", 2, [((2,), 5)]))
        self.assertEqual((other.word(), other.unlooked(), other.due()), ("open", 5, 1))
        self.assertEqual(other.known(), [((1,), 3), ((2,), 2)])


class Looking(House):
    def test_known_and_unlooked(self):
        box = box_of(2, [((1,), 3), ((1,), 1)], [((2,), 2)], [], [((), 1)])
        look = Look(Margin(Seats(2, 1)), box, drawn_by([3, 2, 0, 1]))
        self.assertEqual((look.unlooked(), look.known(), look.due()), (7, [((), 1), ((1,), 4), ((2,), 2)], 3))
        self.assertEqual(look.found([((1,), 1)]), "open")
        self.assertEqual((look.unlooked(), look.known(), look.due()), (6, [((1,), 5), ((2,), 2)], 2))
        self.assertEqual(look.found([]), "open")
        self.assertEqual((look.unlooked(), look.known(), look.due()), (6, [((1,), 5), ((2,), 2)], 0))
        self.assertEqual(look.found([((2,), 1), ((1,), 1), ((2,), 2)]), "open")
        self.assertEqual((look.unlooked(), look.known(), look.due()), (2, [((1,), 2), ((2,), 5)], 1))
        self.assertEqual(look.found([((3,), 2)]), "otherwise")
        self.assertEqual((look.unlooked(), look.known(), look.due()), (0, [((1,), 2), ((2,), 3), ((3,), 2)], None))

    def test_sure_ahead_of_the_end(self):
        look = Look(ListsMargin(Lists(2, 1)), box_of(2, [((1,), 5)], [((2,), 4)]), 0)
        self.assertEqual((look.word(), look.due()), ("open", 0))
        self.assertEqual(look.found([((1,), 5)]), "sure")
        self.assertEqual((look.due(), look.unlooked(), look.known()), (None, 4, [((1,), 5), ((2,), 4)]))
        self.refuses(Ended, look.found, [((2,), 4)])

    def test_otherwise_ahead_of_the_end(self):
        look = Look(PairsMargin(Pairs(2, 1)), box_of(2, [((1,), 5)], [((2,), 2)]), 0)
        self.assertEqual(look.found([((2,), 5)]), "otherwise")
        self.refuses(Ended, look.found, [((2,), 2)])
        self.assertEqual((look.word(), look.due(), look.unlooked()), ("otherwise", None, 2))

    def test_sure_from_the_start_where_nothing_can_be_otherwise(self):
        for margin in (SeatsMargin(Seats(2, 2)), PairsMargin(Pairs(2, 2)), Margin(Seats(2, 3))):
            look = Look(margin, box_of(2, [((1,), 5)], [((2,), 2)]), 0)
            self.assertEqual((look.word(), look.due(), look.unlooked()), ("sure", None, 7))
            self.refuses(Ended, look.found, [((1,), 5)])

    def test_the_margins_held_is_asked(self):
        class Asked(Margin):
            def held(self, seen, unseen, known):
                asked.append((seen, unseen, known))
                return unseen < 3

        asked = []
        look = Look(Asked(Seats(2, 1)), box_of(2, [((1,), 5)], [((2,), 2)]), 0)
        self.assertEqual(look.word(), "open")
        self.assertEqual(set(map(str, asked)), {str(([], 7, [((1,), 5), ((2,), 2)]))})
        asked.clear()
        self.assertEqual(look.found([((1,), 4), ((3,), 1)]), "sure")
        self.assertEqual(set(map(str, asked)), {str(([((1,), 4), ((3,), 1)], 2, [((1,), 4), ((2,), 2), ((3,), 1)]))})

    def test_told_lists_are_new_ones_and_lines_may_be_changed(self):
        look = Look(Margin(Seats(2, 1)), box_of(2, [((1,), 5)], [((2,), 2)]), 0)
        look.known().append(7)
        lines = [((1,), 4), ((3,), 1)]
        look.found(lines)
        lines.clear()
        first = look.known()
        self.assertEqual(first, [((1,), 4), ((2,), 2), ((3,), 1)])
        look.found([((1,), 2)])
        self.assertEqual(first, [((1,), 4), ((2,), 2), ((3,), 1)])


class Refusing(House):
    def state(self, look):
        return (look.word(), look.due(), look.unlooked(), look.known())

    def test_wrong_numbers(self):
        look = Look(Margin(Seats(2, 1)), box_of(2, [((1,), 5)], [((2,), 2)]), 1)
        before = self.state(look)
        for lines, got in [([], 0), ([((1,), 1)], 1), ([((1,), 3)], 3), ([((1,), 2), ((2,), 10 ** 9)], 10 ** 9 + 2)]:
            error = self.refuses(WrongNumber, look.found, lines)
            self.assertEqual((error.wanted, error.got), (2, got))
            self.assertEqual(self.state(look), before)
        look.found([((3,), 2)])
        error = self.refuses(WrongNumber, look.found, [((3,), 2)])
        self.assertEqual((error.wanted, error.got), (5, 2))

    def test_no_sheet_ahead_of_wrong_number(self):
        look = Look(Margin(Seats(2, 1)), box_of(2, [((1,), 5)], [((2,), 2)]), 1)
        before = self.state(look)
        for number in NO_WHOLES + [0, -1, 10 ** 9 + 1]:
            for lines in ([((1,), number)], [((1,), 2), ((2,), number)], [((1,), number), ((2,), 9)]):
                self.refuses(NoSheet, look.found, lines)
        self.refuses(NoSheet, look.found, [((1,), 3), ((2,), -1)])
        self.assertEqual(self.state(look), before)

    def test_ended_ahead_of_all(self):
        look = Look(ListsMargin(Lists(2, 1)), box_of(2, [((1,), 5)], [((2,), 2)]), 0)
        look.found([((1,), 5)])
        before = self.state(look)
        for lines in ([], [((2,), 2)], [((2,), 0)], [((2,), True)], [((2,), 99)]):
            self.refuses(Ended, look.found, lines)
            self.assertEqual(self.state(look), before)


class Surely(House):
    def some_box(self, dice, hands):
        parts = [some_sheet(dice, hands, dice.randint(0, 2), dice.choice([1, 2, 6])) for _ in range(dice.randint(1, 4))]
        return parts, box_of(hands, *parts)

    def real_ones(self, dice, hands, part):
        """What is found in a bundle: mostly what was told, now and then other ballots."""
        many = sum(number for _, number in part)
        if dice.randint(0, 2):
            return part
        return sheet_by([dice.choice([(1,), (2,), (), (3,)]) for _ in range(many)])

    def assert_word(self, margin, look, told, seen, exact):
        unseen = look.unlooked()
        way = margin.way
        if unseen > (3 if way.hands == 2 else 2):
            return
        ends = [outcome_by(way, together(seen, other)) for other in all_sheets(way.hands, unseen)]
        known = outcome_by(way, look.known())
        if look.word() == "sure":
            self.assertTrue(all(end == told for end in ends))
        elif look.word() == "otherwise":
            self.assertTrue(all(end != told for end in ends))
        else:
            self.assertGreater(unseen, 0)
            if exact:
                self.assertTrue(known != told or any(end != told for end in ends))
        self.words.add(look.word())

    def test_sure_only_where_no_ballots_make_another_outcome(self):
        dice = random.Random(95)
        self.words = set()
        for turn in range(160):
            hands = 2 if turn % 4 else 3
            parts, box = self.some_box(dice, hands)
            for margin in margins_for(dice, hands):
                number = dice.randint(0, 10 ** 9)
                look = Look(margin, box, number)
                told, seen = outcome_by(margin.way, box.sheet()), []
                self.assert_word(margin, look, told, seen, isinstance(margin, ListsMargin))
                while look.word() == "open":
                    real = self.real_ones(dice, hands, parts[look.due()])
                    seen = together(seen, real)
                    self.assertEqual(look.found(real), look.word())
                    self.assert_word(margin, look, told, seen, isinstance(margin, ListsMargin))
        self.assertEqual(self.words, {"sure", "otherwise", "open"})


if __name__ == "__main__":
    unittest.main()
