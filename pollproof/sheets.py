"""Sheets: lines with unlike slips, sorted; how they are made, joined, changed and compared."""

from pollproof.errors import NoChange, NoSheet
from pollproof.wholes import is_whole

MOST_BALLOTS = 1000000000


def is_number(thing):
    return is_whole(thing) and 1 <= thing <= MOST_BALLOTS


def numbers_by_slip(lines):
    numbers = {}
    for slip, number in lines:
        numbers[slip] = numbers.get(slip, 0) + number
    return numbers


def sheet_from(numbers):
    return [(slip, numbers[slip]) for slip in sorted(numbers) if numbers[slip] > 0]


def sheet_of(lines):
    for line in lines:
        if not is_number(line[1]):
            raise NoSheet("a line's number is a whole number from 1 to 10 ** 9")
    return sheet_from(numbers_by_slip(lines))


def joined(sheets):
    lines = []
    for sheet in sheets:
        lines.extend(sheet)
    return sheet_from(numbers_by_slip(lines))


def ballots_in(sheet):
    return sum([number for slip, number in sheet])


def number_of(sheet, slip):
    return sum([line[1] for line in sheet if line[0] == slip])


def check_row(old, new, number):
    if not is_whole(number) or number < 1:
        raise NoChange("a row's number is a whole number from 1 on")
    if old == new:
        raise NoChange("a row puts another slip than it takes")


def changed(sheet, change):
    for old, new, number in change:
        check_row(old, new, number)
    left = numbers_by_slip(sheet)
    for old, new, number in change:
        left[old] = left.get(old, 0) - number
    # Asked ahead of any putting: only what the sheet itself has can be taken.
    if any([number < 0 for number in left.values()]):
        raise NoChange("more ballots are taken than there are")
    for old, new, number in change:
        left[new] = left.get(new, 0) + number
    return sheet_from(left)


def apart(one, other):
    others = numbers_by_slip(other)
    return sum([max(0, number - others.get(slip, 0)) for slip, number in one])
