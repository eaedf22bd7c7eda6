"""The desk: a poll that is told rows of words and answers each with a text."""

from pollproof.boxes import Box
from pollproof.cases import SeatsMargin
from pollproof.codes import code_of
from pollproof.errors import Ended, NoBallot, NoRow, TooHard
from pollproof.listmargin import ListsMargin
from pollproof.lists import Lists
from pollproof.looks import Look
from pollproof.pairmargin import PairsMargin
from pollproof.pairs import Pairs
from pollproof.seals import seal_of
from pollproof.seats import Seats
from pollproof.sets import with_one
from pollproof.sheets import sheet_of

FIGURES = "0123456789"
LETTERS = "abcdefghijklmnopqrstuvwxyz"
MOST_FIGURES = 10
MOST_LETTERS = 8
MOST_NAMES = 12


def is_made_of(word, signs, most):
    return 1 <= len(word) <= most and all([sign in signs for sign in word])


def is_number_word(word):
    return is_made_of(word, FIGURES, MOST_FIGURES) and (word == "0" or word[0] != "0")


def are_names(words):
    if not 1 <= len(words) <= MOST_NAMES or len(set(words)) != len(words):
        return False
    return all([is_made_of(word, LETTERS, MOST_LETTERS) for word in words])


def is_way_row(words):
    if len(words) == 2 and words[0] in ("seats", "pairs"):
        return is_number_word(words[1])
    if len(words) == 4 and words[0] == "lists":
        hurdle = words[2].partition("/")
        return all([is_number_word(word) for word in (words[1], hurdle[0], hurdle[2], words[3])])
    return False


def margin_by(words, hands):
    seats = int(words[1])
    if words[0] == "seats":
        return SeatsMargin(Seats(hands, seats))
    if words[0] == "pairs":
        return PairsMargin(Pairs(hands, seats))
    hurdle = words[2].partition("/")
    return ListsMargin(Lists(hands, seats, None, (int(hurdle[0]), int(hurdle[2])), int(words[3])))


def slip_by(text, names):
    if text == "":
        return ()
    tiers = []
    met = []
    for level in text.split(">"):
        tier = 0
        for name in level.split("="):
            if name not in names or name in met:
                raise NoBallot("tiers hold names of the poll, none of them twice")
            met.append(name)
            tier = with_one(tier, names.index(name))
        tiers.append(tier)
    return tuple(tiers)


def line_by(word, names):
    parts = word.partition(":")
    if parts[1] == "" or not is_number_word(parts[0]):
        raise NoBallot("a line is written NUMBER:TIERS")
    return (slip_by(parts[2], names), int(parts[0]))


class Desk:
    def __init__(self):
        self.names = []
        self.box = None
        self.look = None

    def is_row(self, words):
        if words[0] == "poll":
            return are_names(words[1:])
        if self.box is None:
            return False
        if words[0] in ("bundle", "found"):
            return True
        if words[0] == "right":
            return len(words) > 1 and is_number_word(words[1])
        if words[0] == "look":
            return len(words) > 1 and is_number_word(words[1]) and is_way_row(words[2:])
        if words[0] == "margin":
            return is_way_row(words[1:])
        return is_way_row(words)

    def say(self, row):
        if not isinstance(row, str):
            raise NoRow("a row is a text")
        words = row.split(" ")
        if not self.is_row(words):
            raise NoRow("there is no such row")
        if words[0] == "poll":
            return self.begin_poll(words[1:])
        if words[0] == "bundle":
            return self.take_bundle(words[1:])
        if words[0] == "right":
            return self.recount(int(words[1]), words[2:])
        if words[0] == "margin":
            return self.tell_margin(margin_by(words[1:], self.box.hands))
        if words[0] == "look":
            return self.begin_look(int(words[1]), margin_by(words[2:], self.box.hands))
        if words[0] == "found":
            return self.tell_found(words[1:])
        return self.tell_outcome(margin_by(words, self.box.hands))

    def lines_in(self, words):
        return [line_by(word, self.names) for word in words]

    def begin_poll(self, names):
        self.names = names
        self.box = Box(len(names))
        self.look = None
        return "ok"

    def take_bundle(self, words):
        lines = self.lines_in(words)
        # Asked for its refusal alone: a line's number is to be refused as such, not as a code.
        sheet_of(lines)
        codes = [code_of(line, self.box.hands) for line in lines]
        return str(self.box.take(codes, seal_of(codes))[0])

    def recount(self, k, words):
        # Asked for its refusal alone, which comes ahead of those of lines.
        self.box.lines_at(k)
        return str(self.box.put_right(k, self.lines_in(words)))

    def tell_outcome(self, margin):
        outcome = margin.way.outcome(self.box.sheet())
        told = [f"{name}:{seats}" for name, seats in zip(self.names, outcome) if seats > 0]
        return "nobody" if told == [] else " ".join(told)

    def tell_margin(self, margin):
        try:
            told = margin.told(self.box.sheet())
        except TooHard as hard:
            return "hard " + str(hard.at_least)
        return "none" if told is None else str(told[0]) + " " + str(told[1])

    def begin_look(self, number, margin):
        self.look = Look(margin, self.box, number)
        return self.tell_look()

    def tell_look(self):
        if self.look.word() == "open":
            return "open " + str(self.look.due())
        return self.look.word()

    def tell_found(self, words):
        if self.look is None or self.look.word() != "open":
            raise Ended("no bundle is due")
        self.look.found(self.lines_in(words))
        return self.tell_look()
