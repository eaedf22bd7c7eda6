"""Things that several tests hand in."""

from fractions import Fraction


class Other:
    """A kind of its own, equal to everything, so that only its kind tells it from a number."""

    def __eq__(self, other):
        return True

    def __hash__(self):
        return 1


# Nothing of this is a whole number.
NO_WHOLES = [
    True, False, None, "", "1", "-3", 1.0, 0.0, 2.5, float("nan"), float("inf"), 1j, b"1", bytearray(b"1"),
    [], [1], (), (1,), (1, 2), {}, {1: 2}, {1}, frozenset((1,)), range(1), Fraction(1, 1), int, bool, len, object(),
    Other(), NotImplemented, ...,
]
