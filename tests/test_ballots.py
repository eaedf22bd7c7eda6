import random
import unittest

from pollproof.ballots import lies, prefers, ranks_of, slip_of
from pollproof.errors import NoBallot
from things import NO_WHOLES, House, Other, all_slips, some_slip

MOST = 10 ** 9


def without_gaps(ranks):
    """Ranks with the gaps closed, reckoned without the program."""
    order = sorted(set(ranks) - {0})
    return [order.index(rank) + 1 if rank else 0 for rank in ranks]


def many_slips():
    dice = random.Random(22)
    some = [(slip, hands) for hands in (1, 2, 3, 4) for slip in all_slips(hands)]
    return some + [(some_slip(dice, hands), hands) for hands in range(5, 13) for _ in range(40)]


class SlipOf(House):
    def test_the_documents_examples(self):
        self.assertEqual(slip_of([3, 0, 1, 3], 4), (4, 9))
        self.assertEqual(slip_of([0, 0], 2), ())

    def test_known_ones(self):
        for ranks, slip in [
            ([1], (1,)), ([0], ()), ([7], (1,)), ([MOST], (1,)),
            ([1, 2, 3], (1, 2, 4)), ([3, 2, 1], (4, 2, 1)), ([2, 2, 2], (7,)), ([1, 1, 2], (3, 4)),
            ([5, 0, 9], (1, 4)), ([0, MOST, 1], (4, 2)), ([MOST, MOST - 1, 0], (2, 1)), ([0, 0, 0], ()),
            ([1, 2, 1, 2, 0], (5, 10)),
            (list(range(1, 13)), tuple(2 ** hand for hand in range(12))),
            (list(range(12, 0, -1)), tuple(2 ** hand for hand in range(11, -1, -1))),
            ([4] * 12, (4095,)), ([0] * 12, ()), ([0] * 11 + [1], (2048,)),
        ]:
            with self.subTest(ranks=ranks):
                told = slip_of(ranks, len(ranks))
                self.assertEqual(told, slip)
                self.assertIs(type(told), tuple)

    def test_gaps_mean_nothing(self):
        dice = random.Random(1)
        for hands in range(1, 13):
            for _ in range(30):
                ranks = [dice.choice([0, 1, 2, 5, 77, MOST]) for _ in range(hands)]
                self.assertEqual(slip_of(ranks, hands), slip_of(without_gaps(ranks), hands))

    def test_what_is_handed_in_stays(self):
        ranks = [3, 0, 1, 3]
        slip_of(ranks, 4)
        self.assertEqual(ranks, [3, 0, 1, 3])

    def test_another_length_refused(self):
        for hands in range(1, 13):
            self.refuses(NoBallot, slip_of, [], hands)
            self.refuses(NoBallot, slip_of, [1] * (hands - 1), hands)
            self.refuses(NoBallot, slip_of, [1] * (hands + 1), hands)
            self.refuses(NoBallot, slip_of, [0] * (hands + 1), hands)

    def test_ranks_out_of_bounds_refused(self):
        for rank in [-1, -MOST, MOST + 1, 10 ** 59]:
            for ranks in ([rank, 1, 2], [1, rank, 2], [1, 2, rank], [0, 0, rank]):
                with self.subTest(ranks=ranks):
                    self.refuses(NoBallot, slip_of, ranks, 3)
        self.refuses(NoBallot, slip_of, [-1], 1)
        self.refuses(NoBallot, slip_of, [MOST + 1], 1)

    def test_things_that_are_no_whole_numbers_refused(self):
        for thing in NO_WHOLES:
            with self.subTest(thing=thing):
                self.refuses(NoBallot, slip_of, [thing], 1)
                self.refuses(NoBallot, slip_of, [thing, 1, 2], 3)
                self.refuses(NoBallot, slip_of, [1, 2, thing], 3)

    def test_no_list_refused(self):
        for thing in NO_WHOLES + [(1, 2), (0, 0), "12", "", 12, 0, {0: 1, 1: 2}, range(2), None, True, Other()]:
            if type(thing) is not list:
                with self.subTest(thing=thing):
                    self.refuses(NoBallot, slip_of, thing, 2)
                    self.refuses(NoBallot, slip_of, thing, 1)


class RanksOf(House):
    def test_known_ones(self):
        for slip, hands, ranks in [
            ((4, 9), 4, [2, 0, 1, 2]), ((), 2, [0, 0]), ((), 1, [0]), ((1,), 1, [1]), ((2, 1), 2, [2, 1]),
            ((7,), 3, [1, 1, 1]), ((8, 3), 5, [2, 2, 0, 1, 0]), ((2048, 1), 12, [2] + [0] * 10 + [1]),
        ]:
            self.assertEqual(ranks_of(slip, hands), ranks)

    def test_there_and_back(self):
        for slip, hands in many_slips():
            ranks = ranks_of(slip, hands)
            self.assertIs(type(ranks), list)
            self.assertEqual(slip_of(ranks, hands), slip)
            self.assertEqual(ranks, without_gaps(ranks))

    def test_slips_are_the_same_where_their_ranks_are(self):
        for hands in (1, 2, 3, 4):
            slips = all_slips(hands)
            told = {tuple(ranks_of(slip, hands)) for slip in slips}
            self.assertEqual(len(told), len(slips))
        dice = random.Random(3)
        for _ in range(500):
            one, other = [[dice.choice([0, 1, 4, 9]) for _ in range(4)] for _ in range(2)]
            alike = without_gaps(one) == without_gaps(other)
            self.assertEqual(slip_of(one, 4) == slip_of(other, 4), alike)

    def test_a_told_list_is_the_askers_own(self):
        first = ranks_of((4, 9), 4)
        first[0] = 99
        first.append(7)
        self.assertEqual(ranks_of((4, 9), 4), [2, 0, 1, 2])


class Prefers(House):
    def test_known_ones(self):
        slip = (4, 9)
        self.assertEqual([[prefers(slip, x, y) for y in range(5)] for x in range(5)], [
            [0, 1, -1, 0, 1],
            [-1, 0, -1, -1, 0],
            [1, 1, 0, 1, 1],
            [0, 1, -1, 0, 1],
            [-1, 0, -1, -1, 0],
        ])

    def test_all_pairs_by_ranks(self):
        for slip, hands in many_slips():
            ranks = [rank or 99 for rank in ranks_of(slip, hands)]
            for x in range(hands):
                for y in range(hands):
                    wanted = (ranks[x] < ranks[y]) - (ranks[x] > ranks[y])
                    self.assertEqual(prefers(slip, x, y), wanted, (slip, x, y))
                    self.assertIs(type(prefers(slip, x, y)), int)

    def test_the_empty_ballot(self):
        for x in range(12):
            for y in range(12):
                self.assertEqual(prefers((), x, y), 0)


class Lies(House):
    def test_known_ones(self):
        for slip, standing, wanted in [
            ((3, 4), 7, 3), ((3, 4), 6, 2), ((3, 4), 5, 1), ((3, 4), 4, 4), ((3, 4), 0, 0), ((3, 4), 8, 0),
            ((3, 4), 4095, 3), ((3, 4), 12, 4), ((1,), 1, 1), ((1,), 4094, 0), ((4095,), 2048, 2048),
            ((2, 1, 12), 13, 1), ((2, 1, 12), 12, 12),
        ]:
            with self.subTest(slip=slip, standing=standing):
                self.assertEqual(lies(slip, standing), wanted)

    def test_nobody_stands_and_the_empty_slip(self):
        for slip, _ in many_slips():
            self.assertEqual(lies(slip, 0), 0)
        for standing in range(4096):
            self.assertEqual(lies((), standing), 0)

    def test_all_masks_by_their_meaning(self):
        for hands in (2, 3, 4):
            for slip in all_slips(hands):
                for standing in range(2 ** (hands + 1)):
                    tiers = [tier & standing for tier in slip if tier & standing]
                    self.assertEqual(lies(slip, standing), tiers[0] if tiers else 0)


if __name__ == "__main__":
    unittest.main()
