import itertools
import random
import unittest

from pollproof.codes import code_of, line_of
from pollproof.errors import NoBallot
from things import NO_WHOLES, House, all_slips, some_slip

MOST = 10 ** 9


def code_by(number, ranks):
    """A code by its figures to the base thirteen."""
    return sum(rank * 13 ** place for place, rank in enumerate(reversed([number] + ranks)))


class CodeOf(House):
    def test_the_documents_examples(self):
        self.assertEqual(code_of(((2, 1), 5), 2), 872)
        self.assertEqual(code_of(((), 3), 2), 507)

    def test_known_ones(self):
        for line, hands, wanted in [
            (((), 1), 1, 13), (((1,), 1), 1, 14), (((1,), MOST), 1, MOST * 13 + 1),
            (((4, 9), 7), 4, code_by(7, [2, 0, 1, 2])),
            (((), 1), 12, 13 ** 12), (((4095,), 1), 12, code_by(1, [1] * 12)),
            ((tuple(2 ** hand for hand in range(12)), MOST), 12, code_by(MOST, list(range(1, 13)))),
        ]:
            self.assertEqual(code_of(line, hands), wanted)

    def test_unlike_lines_have_unlike_codes(self):
        for hands in (1, 2, 3):
            lines = list(itertools.product(all_slips(hands), [1, 2, 12, 13, 14, 168, 169, MOST]))
            self.assertEqual(len({code_of(line, hands) for line in lines}), len(lines))


class LineOf(House):
    def test_the_documents_examples(self):
        self.assertEqual(line_of(872, 2), ((2, 1), 5))
        self.assertEqual(line_of(507, 2), ((), 3))

    def test_there_and_back(self):
        dice = random.Random(32)
        for hands in (1, 2, 3, 4):
            for slip in all_slips(hands):
                for number in (1, 13, MOST):
                    self.assertEqual(line_of(code_of((slip, number), hands), hands), (slip, number))
        for hands in range(5, 13):
            for _ in range(60):
                line = (some_slip(dice, hands), dice.randint(1, MOST))
                told = line_of(code_of(line, hands), hands)
                self.assertEqual(told, line)
                self.assertEqual((type(told), type(told[0])), (tuple, tuple))

    def test_each_number_is_a_code_or_refused(self):
        for hands in (1, 2):
            codes = {code_of((slip, number), hands): (slip, number)
                     for slip in all_slips(hands) for number in range(1, 14)}
            for code in range(13 ** hands * 14):
                if code in codes:
                    self.assertEqual(line_of(code, hands), codes[code])
                else:
                    self.refuses(NoBallot, line_of, code, hands)

    def test_no_whole_numbers_refused(self):
        for thing in NO_WHOLES:
            for hands in (1, 2, 12):
                with self.subTest(thing=thing):
                    self.refuses(NoBallot, line_of, thing, hands)

    def test_below_nought_refused(self):
        for hands in (1, 2, 3, 12):
            for code in [-1, -13, -14, -872, -507, -13 ** hands, -10 ** 59]:
                self.refuses(NoBallot, line_of, code, hands)

    def test_numbers_of_ballots_refused(self):
        for ranks in ([0], [1], [0, 0], [1, 2], [1, 1, 1], [2, 0, 1], [0] * 12, [1] * 12):
            hands = len(ranks)
            for number in (0, MOST + 1, 2 * MOST, 10 ** 40):
                self.refuses(NoBallot, line_of, code_by(number, ranks), hands)
            for number in (1, MOST):
                self.assertEqual(line_of(code_by(number, ranks), hands)[1], number)
        self.refuses(NoBallot, line_of, 0, 1)
        self.refuses(NoBallot, line_of, 0, 12)

    def test_ranks_with_a_gap_refused(self):
        for ranks in ([2], [0, 2], [2, 0], [2, 2], [1, 3], [3, 1], [3, 2, 0], [1, 1, 3], [0, 0, 12], [12, 1, 2],
                      [1, 2, 4], [5] * 12, [1] * 11 + [3]):
            with self.subTest(ranks=ranks):
                self.refuses(NoBallot, line_of, code_by(5, ranks), len(ranks))

    def test_a_rank_above_the_hands_refused(self):
        for hands in range(1, 12):
            for rank in range(hands + 1, 13):
                self.refuses(NoBallot, line_of, code_by(1, [0] * (hands - 1) + [rank]), hands)
                self.refuses(NoBallot, line_of, code_by(1, [rank] + list(range(1, hands))), hands)


if __name__ == "__main__":
    unittest.main()
