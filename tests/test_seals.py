import itertools
import random
import unittest

from pollproof.errors import Torn
from pollproof.seals import mended, seal_of
from things import House

LISTS = [[10], [0], [10, 20], [7, 7, 7], [1, 2, 3, 4, 5], [-3, 0, 3, 10 ** 59], [872, 507, 872, 1014, 0, -1],
         [0, 0, 0, 0]]


def other_codes(code):
    return [code + 1, code - 1, code + 10 ** 40, -10 ** 40 - code, -code - 7, code + 3, code - 6]


class SealOf(House):
    def test_the_documents_examples(self):
        self.assertEqual(seal_of([10, 20]), (2, 30, 50, 90))
        self.assertEqual(seal_of([]), (0, 0, 0, 0))

    def test_known_ones(self):
        self.assertEqual(seal_of([5]), (1, 5, 5, 5))
        self.assertEqual(seal_of([-1, 0, 2]), (3, 1, 5, 17))
        self.assertEqual(seal_of([0, 0, 0]), (3, 0, 0, 0))
        self.assertEqual(seal_of([-10 ** 59, 10 ** 59]), (2, 0, 10 ** 59, 3 * 10 ** 59))

    def test_by_its_meaning(self):
        dice = random.Random(33)
        for many in (1, 2, 10, 300):
            codes = [dice.randint(-10 ** 30, 10 ** 30) for _ in range(many)]
            kept = list(codes)
            told = seal_of(codes)
            self.assertEqual(told, (many,
                                    *[sum(code * (k + 1) ** p for k, code in enumerate(codes)) for p in (0, 1, 2)]))
            self.assertIs(type(told), tuple)
            self.assertEqual(codes, kept)


class Mended(House):
    def test_nothing_altered(self):
        for codes in LISTS + [[]]:
            handed = list(codes)
            told = mended(handed, seal_of(codes))
            self.assertEqual(told, (codes, 0))
            self.assertEqual((type(told), type(told[0])), (tuple, list))
            told[0].append(7)
            self.assertEqual(handed, codes)

    def test_one_altered_at_each_place(self):
        for codes in LISTS + [list(range(300))]:
            for place in range(len(codes)):
                for code in other_codes(codes[place]):
                    if code == codes[place]:
                        continue
                    altered = codes[:place] + [code] + codes[place + 1:]
                    kept = list(altered)
                    told = mended(altered, seal_of(codes))
                    self.assertEqual(told, (codes, place + 1))
                    told[0].clear()
                    self.assertEqual(altered, kept)

    def test_two_altered_are_always_refused(self):
        small = range(-6, 7)
        for many in (2, 3, 4, 5):
            for first, second in itertools.combinations(range(many), 2):
                for one, other in itertools.product(small, small):
                    if one and other:
                        altered = [5] * many
                        altered[first] += one
                        altered[second] += other
                        self.refuses(Torn, mended, altered, seal_of([5] * many))

    def test_two_altered_in_long_lists(self):
        dice = random.Random(35)
        for _ in range(300):
            codes = [dice.randint(0, 10 ** 20) for _ in range(dice.randint(2, 300))]
            altered = list(codes)
            for place in dice.sample(range(len(codes)), 2):
                altered[place] += dice.choice([-1, 1]) * dice.choice([1, 2, 10 ** 9, 10 ** 25])
            self.refuses(Torn, mended, altered, seal_of(codes))

    def test_lost_and_added(self):
        for codes in LISTS:
            for place in range(len(codes)):
                self.refuses(Torn, mended, codes[:place] + codes[place + 1:], seal_of(codes))
            for place in range(len(codes) + 1):
                for code in (0, 1, -5, 10 ** 20):
                    self.refuses(Torn, mended, codes[:place] + [code] + codes[place:], seal_of(codes))

    def test_a_seal_of_another_number_of_codes(self):
        for codes in LISTS + [[]]:
            seal = seal_of(codes)
            for many in (seal[0] + 1, seal[0] - 1, -seal[0] - 1, seal[0] + 10 ** 30):
                self.refuses(Torn, mended, codes, (many,) + seal[1:])
        # One altered code, and the number too: all but the number would be put right.
        self.refuses(Torn, mended, [10, 21], (3, 30, 50, 90))
        self.refuses(Torn, mended, [10, 21], (1, 30, 50, 90))

    def test_the_empty_list(self):
        for seal in [(0, 1, 1, 1), (0, 0, 0, 1), (0, 0, 1, 0), (0, -1, 0, 0), (1, 1, 1, 1), (1, 0, 0, 0)]:
            self.refuses(Torn, mended, [], seal)

    def test_a_seal_that_no_list_has(self):
        for seal in [(2, 30, 50, 91), (2, 30, 51, 90), (2, 31, 50, 90), (2, 30, 51, 91), (2, 31, 53, 99),
                     (2, 31, 50, 91), (2, 31, 51, 90), (2, 31, 52, 93), (2, 31, 49, 91), (2, 30, 50, 89)]:
            self.refuses(Torn, mended, [10, 20], seal)

    def test_places_out_of_the_list(self):
        for place in (0, 3, -1, 4, 10 ** 20):
            for less in (1, -1, 6):
                seal = (2, 30 + less, 50 + less * place, 90 + less * place * place)
                self.refuses(Torn, mended, [10, 20], seal)

    def test_as_the_words_tell(self):
        for seal in itertools.product([2], range(-2, 5), range(-4, 8), range(-6, 12)):
            codes = [1, 1]
            fits = [(place + 1, code) for place in (0, 1) for code in range(-20, 21)
                    if code != 1 and seal_of(codes[:place] + [code] + codes[place + 1:]) == seal]
            if seal == seal_of(codes):
                self.assertEqual(mended(codes, seal), (codes, 0))
            elif fits:
                self.assertEqual(len(fits), 1)
                place, code = fits[0]
                self.assertEqual(mended(codes, seal), (codes[:place - 1] + [code] + codes[place:], place))
            else:
                self.refuses(Torn, mended, codes, seal)


if __name__ == "__main__":
    unittest.main()
