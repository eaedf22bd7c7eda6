"""Codes: a line written as one whole number, and read again."""

from pollproof.ballots import ranks_of, slip_of
from pollproof.errors import NoBallot
from pollproof.sheets import is_number
from pollproof.wholes import is_whole

# One more than the highest rank that twelve hands can have.
BASE = 13


def code_of(line, hands):
    code = line[1]
    for rank in ranks_of(line[0], hands):
        code = code * BASE + rank
    return code


def line_of(code, hands):
    if not is_whole(code):
        raise NoBallot("a code is a whole number")
    backwards = []
    rest = code
    for hand in range(hands):
        backwards.append(rest % BASE)
        rest = rest // BASE
    # Of a code below 0 the rest is below 0, too.
    if not is_number(rest):
        raise NoBallot("a code has a number of ballots from 1 to 10 ** 9")
    ranks = list(reversed(backwards))
    slip = slip_of(ranks, hands)
    if ranks_of(slip, hands) != ranks:
        raise NoBallot("a code has ranks without gaps")
    return (slip, rest)
