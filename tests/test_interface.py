"""The names and arguments of the document's interface are there as they stand."""

import importlib
import inspect
import unittest

FUNCTIONS = {
    "wholes": ["is_whole(thing)", "divisor(one, other)", "down(top, bottom)", "up(top, bottom)"],
    "ratios": ["fraction(top, bottom)", "plus(one, other)", "minus(one, other)", "times(one, other)",
               "parted(one, other)", "total(some)", "under(one, other)", "least_from(one)", "least_above(one)"],
    "sets": ["all_of(hands)", "with_one(mask, hand)", "without(mask, hand)", "holds(mask, hand)", "size(mask)",
             "members(mask)"],
    "ballots": ["slip_of(ranks, hands)", "ranks_of(slip, hands)", "prefers(slip, x, y)", "lies(slip, standing)"],
    "sheets": ["sheet_of(lines)", "joined(sheets)", "ballots_in(sheet)", "number_of(sheet, slip)",
               "changed(sheet, change)", "apart(one, other)"],
    "codes": ["code_of(line, hands)", "line_of(code, hands)"],
    "seals": ["seal_of(codes)", "mended(codes, seal)"],
    "piles": ["begin(sheet, hands)", "table(sheet, state, standing)", "tallies(sheet, rows, hands)",
              "kept_by(sheet, state, standing, hand, quota)", "along(sheet, hands, quota, deeds)"],
    "strong": ["overs(sheet, hands)", "leads_of(many)", "strength(leads)", "way_between(leads, x, y)",
               "cut_between(leads, x, y)"],
    "lists": ["votes_of(sheet, hands)"],
    "shifts": ["free_for(sheet, slip)", "shift(sheet, x, y, slip, many)"],
    "cases": ["need(way, ballots, sums, standing, deed)"],
    "looks": ["order_of(number, many)", "drawn_by(order)"],
}

WAY = ["ahead(one, other)", "counted(sheet)", "told_by(paper)", "outcome(sheet)"]
CHECKER = ["right(sheet, paper)", "passes(sheet, paper, outcome)"]
MARGIN = ["possible(sheet)", "least(sheet)", "shows(sheet, low, paper)", "told(sheet)", "held(seen, unseen, known)",
          "slip_for(x, y)", "high(sheet)"]

# By module: the class with what it is made of, the class that it stands straight under, and its methods.
CLASSES = {
    "boxes": [("Box(hands)", "object", ["many()", "take(codes, seal)", "lines_at(k)", "sheet_at(k)", "sheet()",
                                        "seal_at(k)", "put_right(k, lines)"])],
    "ways": [("Way(hands, seats, lots=None)", "object", WAY), ("Checker(way)", "object", CHECKER)],
    "seats": [("Seats(hands, seats, lots=None)", "Way", WAY + ["quota(ballots)"])],
    "seatcheck": [("SeatsChecker(way)", "Checker", CHECKER)],
    "pairs": [("Pairs(hands, seats, lots=None)", "Way", WAY + ["beats(sheet, x, y)", "unbeaten(sheet)"])],
    "paircheck": [("PairsChecker(way)", "Checker", CHECKER)],
    "lists": [("Lists(hands, seats, lots=None, hurdle=None, step=1)", "Way",
               WAY + ["least_votes(ballots)", "mark(many, had)"])],
    "listcheck": [("ListsChecker(way)", "Checker", CHECKER)],
    "margins": [("Margin(way)", "object", MARGIN)],
    "cases": [("SeatsMargin(way)", "Margin", MARGIN)],
    "pairmargin": [("PairsMargin(way)", "Margin", MARGIN)],
    "listmargin": [("ListsMargin(way)", "Margin", MARGIN)],
    "looks": [("Look(margin, box, number)", "object", ["unlooked()", "known()", "word()", "due()", "found(lines)"])],
    "desk": [("Desk()", "object", ["say(row)"])],
}


def written(name, thing):
    return name + str(inspect.signature(thing))


class Interface(unittest.TestCase):
    def test_functions(self):
        for module, rows in FUNCTIONS.items():
            for row in rows:
                name = row.partition("(")[0]
                self.assertEqual(written(name, getattr(importlib.import_module("pollproof." + module), name)), row)

    def test_classes(self):
        for module, classes in CLASSES.items():
            for made, base, methods in classes:
                name = made.partition("(")[0]
                kind = getattr(importlib.import_module("pollproof." + module), name)
                self.assertEqual(written(name, kind), made)
                self.assertEqual([under.__name__ for under in kind.__bases__], [base])
                for row in methods:
                    method = getattr(kind, row.partition("(")[0])
                    self.assertEqual(written(method.__name__, method).replace("(self, ", "(").replace("(self)", "()"),
                                     row)


if __name__ == "__main__":
    unittest.main()
