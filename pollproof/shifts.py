"""Shifts: changes that put one slip in the place of others, to lift one hand over another."""

from pollproof.sets import holds, with_one
from pollproof.sheets import ballots_in, number_of


def free_for(sheet, slip):
    return ballots_in(sheet) - number_of(sheet, slip)


# In which of the three groups ballots with a slip are taken: the less it has for y, and the more for x, the sooner.
def turn_of(slip, x, y):
    if slip == ():
        return 1
    if slip[0] == with_one(0, x):
        return 0
    return 2 if holds(slip[0], y) else 1


def rows_to(lines, slip, many):
    rows = []
    wanted = many
    for old, number in lines:
        taken = min(number, wanted)
        if taken > 0:
            rows.append((old, slip, taken))
        wanted = wanted - taken
    return rows


def shift(sheet, x, y, slip, many):
    others = [line for line in sheet if line[0] != slip]
    # Within each group the sheet's order stays, as sorting keeps it.
    return rows_to(sorted(others, key=lambda line: turn_of(line[0], x, y)), slip, many)
