import math
import unittest

from pollproof.wholes import divisor, down, is_whole, up
from things import NO_WHOLES

GREAT = 10 ** 299 + 10 ** 150 + 37
NUMBERS = [0, 1, 2, 3, 4, 6, 7, 12, 30, 35, 64, 97, 10 ** 9, 2 ** 61 - 1, 10 ** 60 - 1, 3 ** 600, 7 ** 350, GREAT]


class IsWhole(unittest.TestCase):
    def test_whole_numbers(self):
        for number in NUMBERS + [10 ** 2000, 10 ** 5000]:
            self.assertIs(is_whole(number), True)
            self.assertIs(is_whole(-number), True)

    def test_all_other_things(self):
        for thing in NO_WHOLES:
            with self.subTest(thing=thing):
                self.assertIs(is_whole(thing), False)


class Divisor(unittest.TestCase):
    def test_noughts(self):
        self.assertEqual(divisor(0, 0), 0)
        for number in NUMBERS:
            for signed in (number, -number):
                with self.subTest(number=signed):
                    self.assertEqual(divisor(0, signed), number)
                    self.assertEqual(divisor(signed, 0), number)

    def test_known_ones(self):
        for one, other, common in [(12, 18, 6), (18, 12, 6), (7, 7, 7), (1, 9, 1), (35, 64, 1), (100, 10, 10)]:
            with self.subTest(one=one, other=other):
                self.assertEqual(divisor(one, other), common)

    def test_signs_do_not_matter(self):
        for one, other in [(12, 18), (-12, 18), (12, -18), (-12, -18)]:
            self.assertEqual(divisor(one, other), 6)

    def test_it_is_the_greatest_that_divides_both(self):
        for one in range(-40, 41):
            for other in range(-40, 41):
                if one == 0 and other == 0:
                    continue
                both = [k for k in range(1, 41) if one % k == 0 and other % k == 0]
                self.assertEqual(divisor(one, other), max(both), (one, other))

    def test_great_numbers(self):
        for one in NUMBERS:
            for other in NUMBERS:
                for common in (1, 6, 10 ** 9 + 7):
                    wanted = math.gcd(one * common, other * common)
                    self.assertEqual(divisor(one * common, other * common), wanted)
                    self.assertEqual(divisor(-one * common, other * common), wanted)
                    self.assertEqual(divisor(one * common, -other * common), wanted)

    def test_a_great_common_divisor(self):
        common = 10 ** 150 + 7
        self.assertEqual(divisor(common * 2 ** 450, common * 3 ** 300), common)

    def test_many_steps(self):
        one, other = 1, 1
        while len(str(other)) < 300:
            one, other = other, one + other
        self.assertEqual(divisor(one, other), 1)
        self.assertEqual(divisor(other, one), 1)


class DownAndUp(unittest.TestCase):
    def test_the_examples(self):
        self.assertEqual(down(7, 2), 3)
        self.assertEqual(up(7, 2), 4)
        self.assertEqual(down(-7, 2), -4)
        self.assertEqual(up(-7, 2), -3)
        self.assertEqual(down(6, 2), 3)
        self.assertEqual(up(6, 2), 3)

    def test_by_their_meaning(self):
        for top in range(-60, 61):
            for bottom in range(1, 14):
                low, high = down(top, bottom), up(top, bottom)
                self.assertTrue(low * bottom <= top < (low + 1) * bottom, (top, bottom))
                self.assertTrue((high - 1) * bottom < top <= high * bottom, (top, bottom))

    def test_around_a_number_of_times_the_bottom(self):
        for bottom in [2, 3, 10, 10 ** 9, 10 ** 60 - 1, GREAT]:
            for quotient in [-GREAT, -10, -1, 0, 1, 10, GREAT]:
                top = quotient * bottom
                self.assertEqual((down(top, bottom), up(top, bottom)), (quotient, quotient))
                self.assertEqual((down(top + 1, bottom), up(top + 1, bottom)), (quotient, quotient + 1))
                self.assertEqual((down(top - 1, bottom), up(top - 1, bottom)), (quotient - 1, quotient))

    def test_by_one(self):
        for top in [0, 1, -1, 5, -5, GREAT, -GREAT]:
            self.assertEqual((down(top, 1), up(top, 1)), (top, top))

    def test_far_beneath_the_bottom(self):
        self.assertEqual((down(1, GREAT), up(1, GREAT)), (0, 1))
        self.assertEqual((down(-1, GREAT), up(-1, GREAT)), (-1, 0))
        self.assertEqual((down(0, GREAT), up(0, GREAT)), (0, 0))


if __name__ == "__main__":
    unittest.main()
