import unittest

from pollproof.sets import all_of, holds, members, size, with_one, without

MASKS = range(4096)
HANDS = range(12)


def hands_in(mask):
    """The hands of a mask, by its figures to the base two."""
    return [hand for hand, sign in enumerate(reversed(bin(mask)[2:])) if sign == "1"]


def mask_of(hands):
    return sum(2 ** hand for hand in hands)


class AllOf(unittest.TestCase):
    def test_of_0_to_12_hands(self):
        told = [all_of(hands) for hands in range(13)]
        self.assertEqual(told, [0, 1, 3, 7, 15, 31, 63, 127, 255, 511, 1023, 2047, 4095])


class OneHand(unittest.TestCase):
    def test_where_hands_lie(self):
        self.assertEqual([with_one(0, hand) for hand in (0, 1, 2, 5)], [1, 2, 4, 32])

    def test_holds(self):
        self.assertIs(holds(5, 0), True)
        self.assertIs(holds(5, 1), False)
        self.assertIs(holds(5, 2), True)
        for mask in MASKS:
            inside = hands_in(mask)
            for hand in HANDS:
                self.assertIs(holds(mask, hand), hand in inside, (mask, hand))

    def test_with_one(self):
        self.assertEqual((with_one(5, 1), with_one(5, 2)), (7, 5))
        for mask in MASKS:
            for hand in HANDS:
                wanted = mask_of(set(hands_in(mask)) | {hand})
                self.assertEqual(with_one(mask, hand), wanted, (mask, hand))

    def test_without(self):
        self.assertEqual((without(5, 1), without(5, 2)), (5, 1))
        for mask in MASKS:
            for hand in HANDS:
                wanted = mask_of(set(hands_in(mask)) - {hand})
                self.assertEqual(without(mask, hand), wanted, (mask, hand))


class AllHands(unittest.TestCase):
    def test_edges(self):
        self.assertEqual((size(0), members(0)), (0, []))
        self.assertEqual((size(4095), members(4095)), (12, [0, 1, 2, 3, 4, 5, 6, 7, 8, 9, 10, 11]))
        for hand in HANDS:
            self.assertEqual((size(1 << hand), members(1 << hand)), (1, [hand]))

    def test_every_mask(self):
        for mask in MASKS:
            self.assertIs(type(members(mask)), list)
            self.assertEqual(members(mask), hands_in(mask))
            self.assertEqual(size(mask), len(hands_in(mask)))

    def test_members_are_a_new_list_each_time(self):
        for mask in [0, 1, 37, 4095]:
            first = members(mask)
            first.append(99)
            first[0] = 77
            self.assertEqual(members(mask), hands_in(mask))
            self.assertEqual(size(mask), len(hands_in(mask)))
            self.assertIsNot(members(mask), members(mask))


if __name__ == "__main__":
    unittest.main()
