import math
import unittest
from fractions import Fraction

from pollproof.errors import NoNumber
from pollproof.ratios import fraction, least_above, least_from, minus, parted, plus, times, total, under
from things import NO_WHOLES

NOUGHT = (0, 1)
GREAT = 10 ** 299 + 10 ** 150 + 37
# Tops and bottoms of just under two thousand figures, without a common divisor.
LONG = (3 ** 4190, 2 ** 6640)
LONG_TOO = (-7 ** 2360, 5 ** 2850)


def told(value):
    """The fraction, as it is to be told, that a Fraction of Python's is worth."""
    return (value.numerator, value.denominator)


def small():
    """All fractions with tops from -6 to 6 and bottoms from 1 to 6."""
    found = {Fraction(top, bottom) for top in range(-6, 7) for bottom in range(1, 7)}
    return [told(value) for value in sorted(found)]


def long_ones():
    return [LONG, LONG_TOO, (-LONG[0], LONG[1]), (LONG[1], LONG[0]), (1, LONG_TOO[1]), (LONG[0], 1)]


class Ratios(unittest.TestCase):
    def assert_fraction(self, told_one, value):
        self.assertIs(type(told_one), tuple)
        self.assertEqual([type(part) for part in told_one], [int, int])
        self.assertTrue(told_one == told(value))

    def assert_refused(self, function, one, other):
        with self.assertRaises(NoNumber) as seen:
            function(one, other)
        self.assertIs(type(seen.exception), NoNumber)


class Making(Ratios):
    def test_known_ones(self):
        for top, bottom, wanted in [
            (1, 2, (1, 2)), (1, -2, (-1, 2)), (-1, 2, (-1, 2)), (-1, -2, (1, 2)), (2, 1, (2, 1)), (2, 4, (1, 2)),
            (6, -4, (-3, 2)), (-6, -4, (3, 2)), (7, 7, (1, 1)), (7, -7, (-1, 1)), (10, 5, (2, 1)),
        ]:
            with self.subTest(top=top, bottom=bottom):
                self.assertEqual(fraction(top, bottom), wanted)

    def test_nought_of_any_bottom(self):
        for bottom in [1, -1, 2, -2, 12, -97, 10 ** 60, GREAT, -GREAT]:
            with self.subTest(bottom=bottom):
                self.assertEqual(fraction(0, bottom), NOUGHT)

    def test_lowest_terms_and_the_bottom_from_1_on(self):
        for top in range(-30, 31):
            for bottom in list(range(-30, 0)) + list(range(1, 31)):
                one = fraction(top, bottom)
                self.assert_fraction(one, Fraction(top, bottom))
                self.assertTrue(one[1] >= 1 and math.gcd(one[0], one[1]) == 1)

    def test_great_numbers(self):
        for top in [GREAT, -GREAT, 3 ** 600, 6 ** 380]:
            for bottom in [GREAT, -GREAT, 10 ** 299, -(2 ** 990)]:
                self.assert_fraction(fraction(top, bottom), Fraction(top, bottom))

    def test_of_no_whole_numbers_refused(self):
        for thing in NO_WHOLES:
            with self.subTest(thing=thing):
                self.assert_refused(fraction, thing, 2)
                self.assert_refused(fraction, 2, thing)
                self.assert_refused(fraction, thing, -2)
                self.assert_refused(fraction, 0, thing)
                self.assert_refused(fraction, thing, 0)
                self.assert_refused(fraction, thing, thing)

    def test_by_nought_refused(self):
        for top in [0, 1, -1, 12, GREAT, -GREAT]:
            with self.subTest(top=top):
                self.assert_refused(fraction, top, 0)


class Reckoning(Ratios):
    def assert_reckoned(self, one, other):
        first, second = Fraction(*one), Fraction(*other)
        self.assert_fraction(plus(one, other), first + second)
        self.assert_fraction(minus(one, other), first - second)
        self.assert_fraction(times(one, other), first * second)
        if second != 0:
            self.assert_fraction(parted(one, other), first / second)

    def test_known_ones(self):
        half, third = (1, 2), (-1, 3)
        self.assertEqual(plus(half, third), (1, 6))
        self.assertEqual(minus(half, third), (5, 6))
        self.assertEqual(minus(third, half), (-5, 6))
        self.assertEqual(times(half, third), (-1, 6))
        self.assertEqual(parted(half, third), (-3, 2))
        self.assertEqual(parted(third, half), (-2, 3))

    def test_lowest_terms(self):
        self.assertEqual(plus((1, 6), (1, 3)), (1, 2))
        self.assertEqual(minus((5, 6), (1, 3)), (1, 2))
        self.assertEqual(times((2, 3), (3, 4)), (1, 2))
        self.assertEqual(parted((2, 3), (4, 3)), (1, 2))
        self.assertEqual(plus((1, 2), (1, 2)), (1, 1))

    def test_results_of_nought(self):
        for one in small() + long_ones():
            self.assertTrue(plus(one, (-one[0], one[1])) == NOUGHT)
            self.assertTrue(minus(one, one) == NOUGHT)
            self.assertTrue(times(one, NOUGHT) == NOUGHT)
            self.assertTrue(times(NOUGHT, one) == NOUGHT)
            if one != NOUGHT:
                self.assertTrue(parted(NOUGHT, one) == NOUGHT)

    def test_above_and_below_nought(self):
        for one in small():
            for other in small():
                with self.subTest(one=one, other=other):
                    self.assert_reckoned(one, other)

    def test_two_thousand_figures(self):
        for part in LONG + LONG_TOO:
            self.assertIn(len(str(abs(part))), range(1990, 2001))
        for one in long_ones():
            for other in long_ones() + [(1, 3), (-2, 1)]:
                self.assert_reckoned(one, other)
                self.assert_reckoned(other, one)

    def test_parted_by_nought_refused(self):
        for one in small() + long_ones():
            self.assert_refused(parted, one, NOUGHT)
        self.assert_refused(parted, NOUGHT, NOUGHT)


class Under(Ratios):
    def test_small_ones(self):
        for one in small():
            for other in small():
                with self.subTest(one=one, other=other):
                    self.assertIs(under(one, other), Fraction(*one) < Fraction(*other))

    def test_known_ones(self):
        self.assertIs(under((1, 3), (1, 2)), True)
        self.assertIs(under((1, 2), (1, 3)), False)
        self.assertIs(under((1, 2), (1, 2)), False)
        self.assertIs(under((-1, 2), (-1, 3)), True)
        self.assertIs(under((-1, 3), (-1, 2)), False)
        self.assertIs(under((-1, 2), NOUGHT), True)
        self.assertIs(under(NOUGHT, NOUGHT), False)

    def test_very_near_each_other(self):
        for great in [10 ** 20, 10 ** 300, 10 ** 1990]:
            less, more = (great, great + 1), (great + 1, great + 2)
            self.assertIs(under(less, more), True)
            self.assertIs(under(more, less), False)
            self.assertIs(under(less, less), False)
            self.assertIs(under((-less[0], less[1]), (-more[0], more[1])), False)
            self.assertIs(under((-more[0], more[1]), (-less[0], less[1])), True)
            self.assertIs(under((1, great + 1), (1, great)), True)
            self.assertIs(under((-1, great), NOUGHT), True)
            self.assertIs(under((1, great), NOUGHT), False)


class Least(Ratios):
    def test_the_examples(self):
        self.assertEqual((least_from((7, 2)), least_above((7, 2))), (4, 4))
        self.assertEqual((least_from((6, 1)), least_above((6, 1))), (6, 7))
        self.assertEqual((least_from((-1, 2)), least_above((-1, 2))), (0, 0))

    def test_whole_ones(self):
        for whole in [0, 1, -1, 5, -5, GREAT, -GREAT]:
            self.assertEqual(least_from((whole, 1)), whole)
            self.assertEqual(least_above((whole, 1)), whole + 1)

    def test_by_their_meaning(self):
        for one in small() + [(7, 3), (-7, 3), (-13, 4), (13, 4)] + long_ones():
            value = Fraction(*one)
            self.assertTrue(least_from(one) - 1 < value <= least_from(one))
            self.assertTrue(least_above(one) - 1 <= value < least_above(one))
            self.assertIs(type(least_from(one)), int)
            self.assertIs(type(least_above(one)), int)

    def test_near_a_whole_number(self):
        great = 10 ** 1990
        self.assertTrue((least_from((great + 1, great)), least_above((great + 1, great))) == (2, 2))
        self.assertTrue((least_from((great - 1, great)), least_above((great - 1, great))) == (1, 1))
        self.assertTrue((least_from((-great - 1, great)), least_above((-great - 1, great))) == (-1, -1))


class Total(Ratios):
    def assert_total(self, some):
        kept = list(some)
        self.assert_fraction(total(some), sum((Fraction(*one) for one in some), Fraction(0)))
        self.assertTrue(some == kept)

    def test_none_at_all(self):
        some = []
        self.assertEqual(total(some), NOUGHT)
        self.assertEqual(some, [])

    def test_one(self):
        for one in small() + long_ones():
            self.assertTrue(total([one]) == one)

    def test_known_ones(self):
        self.assertEqual(total([(1, 2), (1, 3), (1, 6)]), (1, 1))
        self.assertEqual(total([(1, 2), (-1, 2)]), NOUGHT)
        self.assertEqual(total([(1, 2), (1, 2), (1, 2)]), (3, 2))

    def test_three_hundred(self):
        self.assert_total([(1, k) for k in range(1, 301)])
        self.assert_total([((-1) ** k, k) for k in range(1, 301)])
        self.assert_total([told(Fraction(k * k - 900, 7 * k + 1)) for k in range(300)])
        self.assertEqual(total([(1, 300)] * 300), (1, 1))

    def test_it_hangs_on_no_order_and_nothing_is_changed(self):
        some = small()
        self.assert_total(some)
        self.assertEqual(total(some), total(some[::-1]))

    def test_long_ones(self):
        self.assert_total([LONG, (-1, LONG[1]), (-LONG[0], LONG[1])])


if __name__ == "__main__":
    unittest.main()
