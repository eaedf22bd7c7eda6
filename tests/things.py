"""Things that several tests hand in."""

import itertools
import unittest
from collections import Counter
from fractions import Fraction

from pollproof.errors import PollError


class Other:
    """A kind of its own, equal to everything, so that only its kind tells it from a number."""

    def __eq__(self, other):
        return True

    def __hash__(self):
        return 1


# Nothing of this is a whole number.
NO_WHOLES = [
    True, False, None, "", "1", "-3", 1.0, 0.0, 2.5, float("nan"), float("inf"), 1j, b"1", bytearray(b"1"),
    [], [1], (), (1,), (1, 2), {}, {1: 2}, {1}, frozenset((1,)), range(1), Fraction(1, 1), int, bool, len, object(),
    Other(), NotImplemented, ...,
]


class House(unittest.TestCase):
    """A test that can ask for a refusal by its very class."""

    def refuses(self, wanted, function, *handed):
        with self.assertRaises(PollError) as seen:
            function(*handed)
        self.assertIs(type(seen.exception), wanted)
        return seen.exception


def all_slips(hands):
    """Every slip of the hands 0 to hands - 1, the empty one too."""

    def from_left(left):
        some = [()]
        for tier in range(1, left + 1):
            if tier & left == tier:
                some += [(tier,) + rest for rest in from_left(left - tier)]
        return some

    return sorted(from_left(2 ** hands - 1))


def sheet_by(slips):
    """The sheet of single ballots, reckoned without the program."""
    return sorted(Counter(slips).items())


def all_sheets(hands, ballots):
    """Every sheet of just so many ballots."""
    return [sheet_by(slips) for slips in itertools.combinations_with_replacement(all_slips(hands), ballots)]


def some_slip(dice, hands):
    ranks = [dice.randint(0, hands) for _ in range(hands)]
    order = sorted(set(ranks) - {0})
    return tuple(sum(2 ** hand for hand in range(hands) if ranks[hand] == rank) for rank in order)


def some_sheet(dice, hands, lines, most):
    """A sheet of up to so many lines of up to so many ballots, by a random source with a seed of its own."""
    return sorted({some_slip(dice, hands): dice.randint(1, most) for _ in range(lines)}.items())


def slip_by(text):
    """A slip written as its tiers' hands: 'a>bc' is hand 0 ahead of the level hands 1 and 2."""
    return tuple(sum(2 ** (ord(sign) - ord("a")) for sign in tier) for tier in text.split(">") if tier)


def sheet_in(text):
    """A sheet written as '4 a>b, 3 b>a, 2 ' (the last one are empty ballots)."""
    ballots = Counter()
    for line in text.split(","):
        number, _, slip = line.strip().partition(" ")
        ballots[slip_by(slip)] += int(number)
    return sorted(ballots.items())
