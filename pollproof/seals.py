"""Seals of lists of codes, and how they put one altered code right."""

from pollproof.errors import Torn


def seal_of(codes):
    plain = 0
    by_place = 0
    by_square = 0
    for place, code in enumerate(codes, start=1):
        plain = plain + code
        by_place = by_place + code * place
        by_square = by_square + code * place * place
    return (len(codes), plain, by_place, by_square)


# One code that is less by d at place p lowers the three sums by d, d * p and d * p * p,
# so the first two tell the place and the third one must agree. 0 where there is no such place.
def place_of(lacks, many):
    if lacks[0] == 0:
        return 0
    place = lacks[1] // lacks[0]
    if place < 1 or place > many:
        return 0
    if lacks[1] != lacks[0] * place or lacks[2] != lacks[0] * place * place:
        return 0
    return place


def mended(codes, seal):
    own = seal_of(codes)
    if own == seal:
        return (list(codes), 0)
    place = place_of([seal[k] - own[k] for k in (1, 2, 3)], len(codes))
    if own[0] != seal[0] or place == 0:
        raise Torn("no one code makes the seal that of the codes")
    right = list(codes)
    right[place - 1] = right[place - 1] + seal[1] - own[1]
    return (right, place)
