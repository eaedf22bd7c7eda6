import itertools
import random
import unittest

from pollproof.cases import SeatsMargin
from pollproof.desk import Desk
from pollproof.errors import Ended, NoBallot, NoBundle, NoRow, NoSheet, NoWay, PollError, TooHard, WrongNumber
from pollproof.listmargin import ListsMargin
from pollproof.lists import Lists
from pollproof.pairmargin import PairsMargin
from pollproof.pairs import Pairs
from pollproof.seats import Seats
from pollproof.sheets import sheet_of
from things import NO_WHOLES, House, all_slips

MOST = 10 ** 9
NAMES = ["ann", "bob", "cy"]
# Rows by which it shows whether anything was changed.
ASKED = ["seats 1", "seats 2", "pairs 1", "lists 4 0/1 1", "margin seats 1", "margin pairs 1", "margin lists 4 1/3 2"]


def talk(*rows):
    """A desk that was told some rows."""
    desk = Desk()
    for row in rows:
        desk.say(row)
    return desk


def answers(desk, rows):
    told = []
    for row in rows:
        try:
            told.append(desk.say(row))
        except PollError as error:
            told.append(type(error).__name__)
    return told


def tiers(slip, names):
    return ">".join("=".join(name for hand, name in enumerate(names) if tier >> hand & 1) for tier in slip)


def lines_in(lines, names):
    return "".join(f" {number}:{tiers(slip, names)}" for slip, number in lines)


class Polls(House):
    def test_names(self):
        for row in ("poll a", "poll ann", "poll abcdefgh", "poll a b c d e f g h i j k l", "poll poll",
                    "poll seats look",
                    "poll z y x"):
            self.assertEqual(Desk().say(row), "ok")

    def test_wrong_names(self):
        for row in ("poll", "poll ", "poll  ann", "poll ann ", "poll ann  bob", " poll ann", "poll abcdefghi",
                    "poll Ann",
                    "poll a1", "poll a-b", "poll ann ann", "poll ann bob ann", "poll a b c d e f g h i j k l m",
                    "poll 5",
                    "poll ann:bob", "poll ann=bob", "poll a_b", "poll a.", "poll {", "poll `", "poll @", "poll ["):
            with self.subTest(row=row):
                self.refuses(NoRow, Desk().say, row)
                desk = talk("poll ann bob", "bundle 3:ann")
                self.refuses(NoRow, desk.say, row)
                self.assertEqual(desk.say("seats 1"), "ann:1")

    def test_a_new_poll_forgets_all(self):
        desk = talk("poll ann bob", "bundle 3:ann", "bundle 2:bob", "look 0 lists 1 0/1 1")
        self.assertEqual(desk.say("poll cy bob ann"), "ok")
        self.assertEqual(desk.say("lists 1 0/1 1"), "nobody")
        self.refuses(Ended, desk.say, "found 3:ann")
        self.refuses(NoBundle, desk.say, "right 0")
        self.assertEqual(desk.say("margin pairs 1"), "none")
        self.assertEqual(desk.say("bundle 4:ann"), "0")
        self.assertEqual(desk.say("pairs 1"), "ann:1")
        desk.say("poll bob")
        self.refuses(NoBallot, desk.say, "bundle 4:ann")

    def test_two_desks_have_nothing_in_common(self):
        one, other = talk("poll ann", "bundle 1:ann"), Desk()
        self.refuses(NoRow, other.say, "seats 1")
        other.say("poll ann")
        self.assertEqual(other.say("bundle"), "0")
        self.assertEqual(one.say("bundle"), "1")


class Bundles(House):
    def test_numbers(self):
        desk = talk("poll ann bob cy")
        for number, row in enumerate(["bundle", "bundle 3:", "bundle 5:ann=bob>cy 3:", "bundle 1:cy 1:cy 2:ann>bob>cy",
                                      "bundle 1000000000:ann"]):
            self.assertEqual(desk.say(row), str(number))

    def test_slips(self):
        for slip in all_slips(3):
            desk = talk("poll ann bob cy", "bundle" + lines_in([(slip, 5)], NAMES))
            for row in ("seats 1", "seats 2", "pairs 1", "pairs 2", "lists 3 0/1 1"):
                way = {"seats": Seats, "pairs": Pairs, "lists": Lists}[row.split()[0]](3, int(row.split()[1]))
                wanted = [f"{name}:{seats}" for name, seats in zip(NAMES, way.outcome([(slip, 5)])) if seats]
                self.assertEqual(desk.say(row), " ".join(wanted) or "nobody")

    def test_lines_written_in_every_wrong_way(self):
        for line in ("", "5", ":", ":ann", "5ann", "5;ann", "05:ann", "00:ann", "-5:ann", "+5:ann", "5.0:ann", "x:ann",
                     "12345678901:ann", "00000000005:ann", "5:dan", "5:Ann", "5:ann>", "5:>ann", "5:ann>>bob", "5:=ann",
                     "5:ann=", "5:ann==bob", "5:ann=ann", "5:ann>ann", "5:ann>bob=ann", "5:>", "5:=", "5::",
                     "5:ann:bob",
                     "5:ann,bob", "5:an", "5:annn", "5:ann<bob", "5:5", "5:ann>5", "ann:5", "1_0:ann", "0x5:ann",
                     "0:dan",
                     "2000000000:dan", "01:", "5:ann>bob>cy>ann"):
            desk = talk("poll ann bob cy", "bundle 3:ann", "bundle 2:bob", "look 0 lists 1 0/1 1")
            for row in ("bundle", "bundle 1:ann", "right 0", "right 1 2:ann", "found", "found 3:ann"):
                with self.subTest(line=line, row=row):
                    self.refuses(NoBallot, desk.say, f"{row} {line}")
                    self.refuses(NoBallot, desk.say, f"{row} {line} 3:ann")
            self.assertEqual(answers(desk, ["lists 5 0/1 1", "bundle", "found 3:ann"]), ["ann:3 bob:2", "2", "sure"])

    def test_blanks(self):
        desk = talk("poll ann bob", "bundle 3:ann")
        for row in ("bundle ", "bundle  3:ann", "bundle 3:ann ", "bundle 3:ann  3:bob", "right 0 ", "right 0  3:ann",
                    "right 0 3:ann "):
            self.refuses(NoBallot, desk.say, row)
        for row in (" bundle", " bundle 3:ann", "right  0", "right  0 3:ann", " right 0 3:ann", "", " ", "  "):
            self.refuses(NoRow, desk.say, row)

    def test_numbers_of_lines(self):
        desk = talk("poll ann bob", "bundle 3:ann", "bundle 2:bob", "look 0 lists 1 0/1 1")
        for number in ("0", "1000000001", "2000000000", "9999999999"):
            for row in ("bundle {}:ann", "bundle 1:ann {}:bob", "bundle {}: 3:bob", "right 0 {}:ann",
                        "right 0 3:ann {}:",
                        "found {}:ann", "found 3:ann {}:ann"):
                self.refuses(NoSheet, desk.say, row.format(number))
        self.assertEqual(answers(desk, ["lists 5 0/1 1", "bundle", "found 3:ann"]), ["ann:3 bob:2", "2", "sure"])

    def test_no_ballot_ahead_of_no_sheet_wherever_it_stands(self):
        desk = talk("poll ann bob", "bundle 3:ann", "look 0 lists 1 0/1 1")
        for row in ("bundle", "right 0", "found"):
            self.refuses(NoBallot, desk.say, row + " 0:ann 3:dan")
            self.refuses(NoBallot, desk.say, row + " 3:dan 0:ann")
            self.refuses(NoBallot, desk.say, row + " 2000000000: 0:ann 03:bob")


class Rights(House):
    def test_how_many_were_put_right(self):
        desk = talk("poll ann bob cy", "bundle 3:ann 2:bob", "bundle 1:cy")
        for row, wanted in [("right 0 2:bob 3:ann", "0"), ("right 0 5:ann", "2"), ("right 0 5:cy", "5"),
                            ("right 1 1:", "1"),
                            ("right 1 1:", "0"), ("right 0 1:cy 4:cy", "0")]:
            self.assertEqual(desk.say(row), wanted)
        self.assertEqual(desk.say("lists 1 0/1 1"), "cy:1")
        self.assertEqual(desk.say("bundle"), "2")
        self.assertEqual(desk.say("right 2"), "0")

    def test_wrongly_written(self):
        desk = talk("poll ann bob", "bundle 3:ann")
        for row in ("right", "right ", "right x 3:ann", "right 00 3:ann", "right 01 3:ann", "right -0 3:ann",
                    "right +0 3:ann",
                    "right 0: 3:ann", "right 3:ann", "right 12345678901 3:ann", "right 00000000000", "Right 0 3:ann",
                    "rights 0 3:ann", "right0 3:ann", "right 0.0 3:ann"):
            self.refuses(NoRow, desk.say, row)

    def test_no_bundle(self):
        desk = talk("poll ann bob", "bundle 3:ann")
        for k in ("1", "2", "9999999999"):
            for lines in ("", " 3:ann", " 3:dan", " 0:ann", " 9:ann", " "):
                self.refuses(NoBundle, desk.say, f"right {k}{lines}")
        self.refuses(NoBundle, talk("poll ann").say, "right 0")

    def test_wrong_number(self):
        desk = talk("poll ann bob", "bundle 3:ann 1:")
        for lines, got in [("", 0), (" 3:ann", 3), (" 5:ann", 5), (" 4:ann 1000000000:", MOST + 4)]:
            error = self.refuses(WrongNumber, desk.say, "right 0" + lines)
            self.assertEqual((error.wanted, error.got), (4, got))
        self.assertEqual(desk.say("margin lists 1 0/1 1"), "2 2")


class Ways(House):
    def test_outcomes(self):
        desk = talk("poll ann bob cy", "bundle 4:ann>bob 3:bob>ann", "bundle 2:cy>bob")
        for row, wanted in [("seats 1", "bob:1"), ("seats 2", "ann:1 bob:1"), ("seats 3", "ann:1 bob:1 cy:1"),
                            ("seats 6", "ann:1 bob:1 cy:1"), ("pairs 1", "bob:1"), ("pairs 2", "ann:1 bob:1"),
                            ("pairs 60", "ann:1 bob:1 cy:1"), ("lists 1 0/1 1", "ann:1"),
                            ("lists 9 0/1 1", "ann:4 bob:3 cy:2"),
                            ("lists 7 1/3 1", "ann:4 bob:3"), ("lists 7 1/1 1", "nobody"), ("lists 7 4/9 1", "ann:7"),
                            ("lists 4 0/1 9", "ann:2 bob:1 cy:1"), ("lists 60 0/1 1", "ann:27 bob:20 cy:13")]:
            self.assertEqual(desk.say(row), wanted, row)

    def test_names_by_number(self):
        desk = talk("poll zed ann", "bundle 4:zed 2:ann")
        self.assertEqual(desk.say("lists 3 0/1 1"), "zed:2 ann:1")
        self.assertEqual(desk.say("pairs 2"), "zed:1 ann:1")

    def test_no_ballots(self):
        desk = talk("poll ann bob")
        for row, wanted in [("seats 1", "ann:1"), ("pairs 1", "ann:1"), ("lists 1 0/1 1", "nobody"),
                            ("margin seats 1", "none"),
                            ("margin pairs 1", "none"), ("margin lists 1 0/1 1", "none"), ("look 0 seats 1", "sure"),
                            ("look 5 pairs 1", "sure"), ("look 5 lists 1 1/2 2", "sure")]:
            self.assertEqual(desk.say(row), wanted)

    def test_no_way(self):
        desk = talk("poll ann bob", "bundle 3:ann")
        for way in ("seats 0", "seats 7", "seats 60", "seats 9999999999", "pairs 0", "pairs 61", "pairs 9999999999",
                    "lists 0 0/1 1", "lists 61 0/1 1", "lists 1 2/4 1", "lists 1 0/2 1", "lists 1 0/0 1",
                    "lists 1 1/0 1",
                    "lists 1 3/2 1", "lists 1 2/1 1", "lists 1 0/1 0", "lists 1 0/1 10",
                    "lists 1 1/9999999998 9999999999"):
            for row in (way, "margin " + way, "look 0 " + way):
                with self.subTest(row=row):
                    self.refuses(NoWay, desk.say, row)
        self.assertEqual(desk.say("lists 1 9999999998/9999999999 9"), "ann:1")

    def test_wrongly_written(self):
        desk = talk("poll ann bob", "bundle 3:ann")
        ways = ("seats", "seats ", "seats x", "seats 01", "seats 1 ", "seats  1", "seats 1 1", "seats -1",
                "seats 12345678901",
                "Seats 1", "seat 1", "pairs", "pairs 1 2", "pairs 00", "pairs +1", "pairs 1.0", "lists", "lists 1",
                "lists 1 0/1", "lists 1 0/1 1 1", "lists 1 01 1", "lists 1 0/01 1", "lists 1 00/1 1", "lists 1 /1 1",
                "lists 1 0/ 1",
                "lists 1 / 1", "lists 1 0/1/1 1", "lists 1 0//1 1", "lists 1 0 1", "lists 01 0/1 1", "lists 1 0/1 01",
                "lists 1 0/1 x", "lists x 0/1 1", "lists 1 x/1 1", "lists 1 0/x 1", "lists 1 -1/2 1",
                "lists 1 0/12345678901 1",
                "lists 1 0/1 1 ", "lists  1 0/1 1", "lists 1 0/1 ", "lists 1  1", "lists 1 0:1 1", "ann", "",
                "lists 1 0 / 1 1",
                "seats 1 0/1 1", "lists 0/1 1 1", "look 0 seats 1 0", "margin")
        for way in ways:
            for row in (way, "margin " + way, "look 0 " + way, "margin margin " + way):
                with self.subTest(row=row):
                    self.refuses(NoRow, desk.say, row)
        for number in ("", "x", "00", "01", "-1", "+1", "12345678901", "0/1", "1.0", "ann"):
            self.refuses(NoRow, desk.say, f"look {number} seats 1")
        for row in ("look", "look 0", "look seats 1", "look 0 0 seats 1", "look  seats 1", "margin look 0 seats 1",
                    "look 0 margin seats 1", "margin 1", "margin  seats 1", "margin bundle", "look 0 found"):
            self.refuses(NoRow, desk.say, row)
        self.refuses(NoRow, desk.say, "look 01 seats 0")
        self.refuses(NoRow, desk.say, "seats 00")

    def test_ten_figures(self):
        desk = talk("poll ann bob", "bundle 3:ann", "bundle 3:bob")
        self.assertEqual(desk.say("look 9999999999 lists 1 0/1 1"), "open 1")
        self.assertEqual(desk.say("look 9999999998 lists 1 0/1 1"), "open 0")


class Margins(House):
    def test_low_and_high(self):
        desk = talk("poll ann bob", "bundle 6:ann 3:bob")
        for way in ("seats 1", "pairs 1", "lists 1 0/1 1"):
            self.assertEqual(desk.say("margin " + way), "2 2")
        self.assertEqual(desk.say("margin seats 2"), "none")
        self.assertEqual(desk.say("margin pairs 2"), "none")
        self.assertEqual(desk.say("margin lists 2 1/2 1"), "2 2")

    def test_as_the_margins_tell(self):
        dice = random.Random(921)
        seen = set()
        for _ in range(60):
            hands = dice.randint(2, 7)
            names = list("abcdefg")[:hands]
            lines = [((2 ** hand, 1) if hand else (1,), dice.randint(1, 12)) for hand in range(hands)]
            lines += [((dice.randint(1, 2 ** hands - 1),), dice.randint(1, 9)) for _ in range(dice.randint(0, 3))]
            desk = talk("poll " + " ".join(names), "bundle" + lines_in(lines, names))
            seats = dice.randint(1, 2)
            for row, margin in [(f"seats {seats}", SeatsMargin(Seats(hands, seats))),
                                (f"pairs {seats}", PairsMargin(Pairs(hands, seats))),
                                (f"lists {seats} 1/9 2", ListsMargin(Lists(hands, seats, None, (1, 9), 2)))]:
                try:
                    told = margin.told(sheet_of(lines))
                    wanted = "none" if told is None else f"{told[0]} {told[1]}"
                except TooHard as error:
                    wanted = f"hard {error.at_least}"
                self.assertEqual(desk.say("margin " + row), wanted)
                seen.add(wanted.split()[0] if wanted[0] in "nh" else "")
        self.assertEqual(seen, {"none", "hard", ""})


class Looks(House):
    def test_open_sure_otherwise(self):
        desk = talk("poll ann bob", "bundle 5:ann", "bundle 4:bob")
        self.assertEqual(desk.say("look 0 lists 1 0/1 1"), "open 0")
        self.assertEqual(desk.say("found 5:ann"), "sure")
        self.refuses(Ended, desk.say, "found 4:bob")
        self.assertEqual(desk.say("look 0 lists 1 0/1 1"), "open 0")
        self.assertEqual(desk.say("found 3:ann 2:bob"), "open 1")
        self.assertEqual(desk.say("found 4:bob"), "otherwise")
        self.refuses(Ended, desk.say, "found 4:bob")
        self.assertEqual(desk.say("look 1 pairs 1"), "open 1")
        self.assertEqual(desk.say("found 4:ann"), "open 0")
        self.assertEqual(desk.say("found 5:ann"), "sure")
        self.assertEqual(desk.say("look 1 seats 2"), "sure")

    def test_it_takes_the_place_of_an_earlier_one(self):
        desk = talk("poll ann bob", "bundle 5:ann", "bundle 4:bob", "look 0 pairs 1", "found 3:ann 2:bob")
        self.assertEqual(desk.say("look 1 pairs 1"), "open 1")
        self.assertEqual(desk.say("found 4:ann"), "open 0")

    def test_a_refused_look_leaves_the_earlier_one(self):
        desk = talk("poll ann bob", "bundle 5:ann", "bundle 4:bob", "look 1 pairs 1")
        self.assertEqual(answers(desk, ["look 0 pairs 0", "look 0 pairs", "poll", "found 4:ann"]),
                         ["NoWay", "NoRow", "NoRow", "open 0"])

    def test_bundles_and_rights_behind_it_change_nothing_of_it(self):
        desk = talk("poll ann bob", "bundle 5:ann", "bundle 4:bob", "look 0 lists 1 0/1 1")
        self.assertEqual(answers(desk, ["right 0 5:bob", "bundle 9:bob", "found 9:bob", "found 5:ann"]),
                         ["5", "2", "WrongNumber", "sure"])
        self.assertEqual(desk.say("lists 1 0/1 1"), "bob:1")
        self.assertEqual(desk.say("look 0 lists 1 0/1 1"), "open 0")

    def test_bundles_without_ballots(self):
        desk = talk("poll ann bob", "bundle", "bundle 3:ann", "bundle")
        self.assertEqual(answers(desk, ["look 0 lists 1 0/1 1", "found", "found", "found 3:ann"]),
                         ["open 0", "open 1", "WrongNumber", "sure"])

    def test_found_does_not_change_the_bundles(self):
        desk = talk("poll ann bob", "bundle 5:ann", "look 0 lists 1 0/1 1", "found 5:bob")
        self.assertEqual(desk.say("lists 1 0/1 1"), "ann:1")

    def test_ended_ahead_of_lines(self):
        for rows in ([], ["bundle 3:ann"], ["bundle 3:ann", "look 0 pairs 2"]):
            desk = talk("poll ann bob", *rows)
            for lines in ("", " ", " 3:dan", " 0:ann", " 9:ann", " 3:ann"):
                self.refuses(Ended, desk.say, "found" + lines)

    def test_wrong_number(self):
        desk = talk("poll ann bob", "bundle 5:ann", "bundle 4:bob", "look 1 lists 1 0/1 1")
        for lines, got in [("", 0), (" 5:ann", 5), (" 4:ann 1:", 5)]:
            error = self.refuses(WrongNumber, desk.say, "found" + lines)
            self.assertEqual((error.wanted, error.got), (4, got))
        self.assertEqual(desk.say("found 4:ann"), "open 0")


class Signs(House):
    """Each sign from the blank to ~ where a figure or a letter is wanted."""

    def test_figures(self):
        for sign in map(chr, range(32, 127)):
            desk = talk("poll ann bob", *["bundle 1:ann"] * 10)
            with self.subTest(sign=sign):
                if sign in "123456":
                    self.assertEqual(desk.say("seats " + sign), "ann:1" if sign == "1" else "ann:1 bob:1")
                elif sign in "0789":
                    self.refuses(NoWay, desk.say, "seats " + sign)
                else:
                    for row in ("seats {}", "seats 1{}", "seats {}1", "pairs 1{}1", "lists 1 {}/1 1", "lists 1 0/{} 1",
                                "lists {} 0/1 1", "lists 1 0/1 {}", "lists 1 0{}1 1", "look {} seats 1",
                                "look 1{} seats 1"):
                        if row.format(sign) != "lists 1 0/1 1":
                            self.refuses(NoRow, desk.say, row.format(sign))
                    for row in ("right {} 1:ann", "right 1{} 1:ann"):
                        self.refuses(NoBallot if row.format(sign) == "right 1  1:ann" else NoRow, desk.say,
                                     row.format(sign))
                    for row in ("bundle {}:ann", "bundle 1{}:ann", "bundle {}1:ann"):
                        self.refuses(NoBallot, desk.say, row.format(sign))

    def test_letters(self):
        for sign in map(chr, range(32, 127)):
            with self.subTest(sign=sign):
                if "a" <= sign <= "z":
                    self.assertEqual(talk("poll " + sign, f"bundle 1:{sign}").say("seats 1"), sign + ":1")
                else:
                    for row in ("poll {}", "poll a{}", "poll {}a", "poll a{}{}b"):
                        self.refuses(NoRow, Desk().say, row.format(sign, sign))
                    desk = talk("poll ann bob")
                    for row in ("bundle 1:ann{}", "bundle 1:{}ann", "bundle 1:a{}n"):
                        self.refuses(NoBallot, desk.say, row.format(sign))
                    if sign not in "=>":
                        self.refuses(NoBallot, desk.say, f"bundle 1:ann{sign}bob")
                    if sign != ":":
                        self.refuses(NoBallot, desk.say, f"bundle 1{sign}ann")


class Rows(House):
    def test_things_that_are_no_text(self):
        for desk in (Desk(), talk("poll ann")):
            for row in NO_WHOLES + [0, 5, ["poll", "ann"], ("poll ann",), b"poll ann"]:
                if not isinstance(row, str):
                    self.refuses(NoRow, desk.say, row)

    def test_ahead_of_the_first_poll(self):
        for row in ("bundle", "bundle 3:ann", "right 0", "right 0 3:ann", "seats 1", "seats 0", "pairs 1",
                    "lists 1 0/1 1",
                    "margin seats 1", "look 0 seats 1", "look 0 seats 9", "found", "found 3:ann", "bundle 0:", ""):
            desk = Desk()
            self.refuses(NoRow, desk.say, row)
            self.assertEqual(desk.say("poll ann"), "ok")

    def test_no_such_rows(self):
        desk = talk("poll ann bob")
        for row in ("hello", "Poll ann", "polls ann", "BUNDLE", "bundle:", "founds", "looks 0 seats 1",
                    "margins seats 1", "ok",
                    "poll\tann", "seats\t1", "1", "0", ":", "seats", "-"):
            self.refuses(NoRow, desk.say, row)

    def test_every_answer_is_a_text(self):
        desk = Desk()
        for row in ["poll ann bob", "bundle 3:ann 2:bob", "right 0 3:ann 2:bob", "look 0 seats 1",
                    "found 5:ann"] + ASKED:
            self.assertIs(type(desk.say(row)), str)

    def test_what_is_refused_changes_nothing(self):
        start = ["poll ann bob cy", "bundle 7:ann>bob 4:bob>ann", "bundle 3:cy", "look 1 lists 1 0/1 1"]
        wrong = ["poll", "poll ann ann", "bundle 3:dan", "bundle 0:ann", "bundle 3:ann 2000000000:ann", "right 5 3:ann",
                 "right 1 4:cy", "right 1 3:dan", "right 1 0:cy", "right x", "seats 7", "margin lists 1 2/4 1",
                 "look 0 seats 0",
                 "look x seats 1", "found 4:cy", "found 3:dan", "found 0:cy 3:cy", "hello", "bundle ", None]
        wanted = answers(talk(*start), ASKED + ["bundle", "found 3:ann", "right 1 3:ann"])
        for row in wrong:
            desk = talk(*start)
            with self.subTest(row=row):
                self.assertRaises(PollError, desk.say, row)
                self.assertEqual(answers(desk, ASKED + ["bundle", "found 3:ann", "right 1 3:ann"]), wanted)
        desk = talk(*start)
        answers(desk, wrong)
        self.assertEqual(answers(desk, ASKED + ["bundle", "found 3:ann", "right 1 3:ann"]), wanted)

    def test_the_order_of_refusals(self):
        desk = talk("poll ann bob", "bundle 3:ann", "bundle 2:bob")
        for row, wanted in [
            ("look x seats 0", NoRow), ("lists 0 0/1 01", NoRow), ("right x 3:dan", NoRow), ("right 9 3:dan", NoBundle),
            ("right 9 0:ann", NoBundle), ("right 9 9:ann", NoBundle), ("right 0 0:dan", NoBallot),
            ("right 0 9:dan", NoBallot),
            ("right 0 0:ann", NoSheet), ("right 0 9:ann 0:ann", NoSheet), ("right 0 9:ann", WrongNumber),
            ("bundle 0:dan", NoBallot), ("found 0:dan", Ended), ("found", Ended),
        ]:
            with self.subTest(row=row):
                self.refuses(wanted, desk.say, row)
        desk.say("look 0 lists 1 0/1 1")
        for row, wanted in [("found 0:dan", NoBallot), ("found 9:dan", NoBallot), ("found 0:ann", NoSheet),
                            ("found 9:ann 0:", NoSheet), ("found 9:ann", WrongNumber)]:
            self.refuses(wanted, desk.say, row)

    def test_long_talks(self):
        dice = random.Random(922)
        for _ in range(12):
            desk, bundles = talk("poll ann bob cy"), []
            for _ in range(40):
                lines = [(dice.choice(all_slips(3)), dice.randint(1, 9)) for _ in range(dice.randint(0, 4))]
                if bundles and dice.randint(0, 1):
                    k = dice.randrange(len(bundles))
                    many, got = sum(n for _, n in bundles[k]), sum(n for _, n in lines)
                    if got < many:
                        lines.append(((1,), many - got))
                    row = f"right {k}" + lines_in(lines, NAMES)
                    if got > many:
                        self.refuses(WrongNumber, desk.say, row)
                    else:
                        old, new = dict(sheet_of(bundles[k])), dict(sheet_of(lines))
                        lacking = sum(max(0, n - new.get(slip, 0)) for slip, n in old.items())
                        self.assertEqual(desk.say(row), str(lacking))
                        bundles[k] = lines
                else:
                    self.assertEqual(desk.say("bundle" + lines_in(lines, NAMES)), str(len(bundles)))
                    bundles.append(lines)
                sheet = sheet_of(list(itertools.chain(*bundles)))
                for row, way in [("seats 2", Seats(3, 2)), ("pairs 1", Pairs(3, 1)),
                                 ("lists 5 1/9 2", Lists(3, 5, None, (1, 9), 2))]:
                    wanted = " ".join(f"{name}:{seats}" for name, seats in zip(NAMES, way.outcome(sheet)) if seats)
                    self.assertEqual(desk.say(row), wanted or "nobody")


if __name__ == "__main__":
    unittest.main()
