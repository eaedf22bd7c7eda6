"""Looks: bundles looked at one by one, in a drawn order, until the told outcome is sure."""

from pollproof.errors import Ended, WrongNumber
from pollproof.sheets import ballots_in, joined, sheet_of


def order_of(number, many):
    left = list(range(many))
    order = []
    rest = number
    while left != []:
        place = rest % len(left)
        rest = rest // len(left)
        order.append(left.pop(place))
    return order


def drawn_by(order):
    left = sorted(order)
    places = []
    for one in order:
        places.append(left.index(one))
        left.remove(one)
    number = 0
    # The last place was divided off last, by the fewest left.
    for many, place in enumerate(reversed(places), start=1):
        number = number * many + place
    return number


class Look:
    def __init__(self, margin, box, number):
        self.margin = margin
        self.sheets = [box.sheet_at(k) for k in range(box.many())]
        self.order = order_of(number, box.many())
        self.looked = 0
        self.first = margin.way.outcome(box.sheet())
        self.said = self.word_now()

    def unlooked(self):
        return sum([ballots_in(self.sheets[k]) for k in self.order[self.looked:]])

    def known(self):
        return joined(self.sheets)

    def word_now(self):
        seen = joined([self.sheets[k] for k in self.order[:self.looked]])
        if not self.margin.held(seen, self.unlooked(), self.known()):
            return "open"
        return "sure" if self.margin.way.outcome(self.known()) == self.first else "otherwise"

    def word(self):
        return self.said

    def due(self):
        return self.order[self.looked] if self.said == "open" else None

    def found(self, lines):
        if self.said != "open":
            raise Ended("no bundle is due")
        sheet = sheet_of(lines)
        wanted = ballots_in(self.sheets[self.due()])
        if ballots_in(sheet) != wanted:
            raise WrongNumber(wanted, ballots_in(sheet))
        self.sheets[self.due()] = sheet
        self.looked = self.looked + 1
        # Kept, since it takes long to reckon and is asked often.
        self.said = self.word_now()
        return self.said
