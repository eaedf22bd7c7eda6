"""What all ways of counting have, and what all checkers of their papers have."""

from pollproof.errors import NoWay
from pollproof.wholes import is_whole

MOST_HANDS = 12
MOST_SEATS = 60


def are_hands(thing):
    return is_whole(thing) and 1 <= thing <= MOST_HANDS


def are_seats(thing):
    return is_whole(thing) and 1 <= thing <= MOST_SEATS


def are_lots(thing, hands):
    if not isinstance(thing, list):
        return False
    return all([is_whole(hand) for hand in thing]) and sorted(thing) == list(range(hands))


class Way:
    def __init__(self, hands, seats, lots=None):
        if not are_hands(hands) or not are_seats(seats):
            raise NoWay("a way has 1 to 12 hands and 1 to 60 seats")
        if lots is not None and not are_lots(lots, hands):
            raise NoWay("lots are a list with each hand just once")
        self.hands = hands
        self.seats = seats
        self.lots = list(range(hands)) if lots is None else list(lots)

    def ahead(self, one, other):
        return self.lots.index(one) < self.lots.index(other)

    def counted(self, sheet):
        return None

    def told_by(self, paper):
        return [0 for hand in range(self.hands)]

    def outcome(self, sheet):
        return self.told_by(self.counted(sheet))


class Checker:
    def __init__(self, way):
        self.way = way

    def right(self, sheet, paper):
        return False

    def passes(self, sheet, paper, outcome):
        # Asked first: only a right paper is sure to show an outcome at all.
        if not self.right(sheet, paper):
            return False
        return self.way.told_by(paper) == outcome
