import unittest
from itertools import permutations, product
from random import Random

from deepspot.halves import half, other_side
from deepspot.sharing import shared
from tests.plane import BIG, HUGE, nothing_shared, place, spot_of, spot_told_well, whole, worth

# Each two of these share a spot, but not all three.
THREE = [(1, 0, 1), (0, 1, 1), (-1, -1, -1)]


class Shared(unittest.TestCase):
    def answer(self, halves):
        """Looks that the answer shows itself to be right, and gives its first word."""
        handed = list(halves)
        told = shared(halves)
        self.assertEqual(halves, handed)
        self.assertIs(type(told), tuple)
        if told[0] == "spot":
            self.assertEqual(len(told), 2)
            spot_told_well(self, told[1])
            for one in halves:
                self.assertGreaterEqual(worth(one, place(told[1])), 0)
        else:
            self.assertEqual((told[0], len(told)), ("none", 3))
            self.assertIs(type(told[1]), list)
            self.assertEqual(told[1], sorted(set(told[1])))
            for number in told[1]:
                whole(self, number)
                self.assertIn(number, range(len(halves)))
            nothing_shared(self, [halves[number] for number in told[1]], told[2])
        return told[0]

    def test_no_halves(self):
        self.assertEqual(self.answer([]), "spot")

    def test_one_half(self):
        for one in ((1, 0, 5), (-1, 0, 5), (0, 2, 7), (3, -4, 9), (3, -4, -9), (BIG, 1, HUGE), (-2, -3, BIG)):
            self.assertEqual(self.answer([one]), "spot")
            self.assertEqual(self.answer([one] * 4), "spot")

    def test_borders_alike(self):
        for one in ((1, 0, 5), (0, -2, 7), (3, -4, 9), (BIG, -1, BIG * BIG)):
            self.assertEqual(self.answer([one, other_side(one)]), "spot")
            self.assertEqual(self.answer([other_side(one), one, one]), "spot")

    def test_borders_side_by_side(self):
        for a, b in ((1, 0), (0, -1), (3, -4), (BIG, -BIG - 1)):
            for pair in permutations([(a, b, 5), (a, b, 8)]):
                self.assertEqual(self.answer(list(pair)), "spot")
            for pair in permutations([(a, b, 5), (-a, -b, -8)]):
                self.assertEqual(self.answer(list(pair)), "spot")
            for pair in permutations([(a, b, 8), (-a, -b, -5)]):
                self.assertEqual(self.answer(list(pair)), "none")

    def test_side_by_side_of_unlike_length(self):
        self.assertEqual(shared([(2, 4, 3), (-3, -6, -4)]), ("none", [0, 1], [3, 2]))
        self.assertEqual(self.answer([(2, 4, 3), (-3, -6, -5)]), "spot")
        self.assertEqual(shared([(0, -6, 1), (0, 4, 1)]), ("none", [0, 1], [2, 3]))

    def test_just_one_spot(self):
        one = spot_of(1, 1)
        for halves in permutations([(1, 0, 1), (0, 1, 1), (-1, -1, -2)]):
            self.assertEqual(shared(list(halves)), ("spot", one))
        for halves in permutations([(1, 0, 1), (-1, 0, -1), (3, 2, 5), (-3, -2, -5)]):
            self.assertEqual(shared(list(halves)), ("spot", one))
        at = shared([(3, 1, BIG), (-5, 2, 0), (2, -3, -BIG)])
        self.assertEqual(at, ("spot", spot_of(f"{2 * BIG}/11", f"{5 * BIG}/11")))

    def test_three_of_which_each_two_share(self):
        for halves in permutations(THREE):
            self.assertEqual(shared(list(halves)), ("none", [0, 1, 2], [1, 1, 1]))
            for missing in range(3):
                self.assertEqual(self.answer([halves[k] for k in range(3) if k != missing]), "spot")
        told = shared([(2, 1, 1), (-1, 3, 1), (-1, -5, 2)])
        self.assertEqual(told, ("none", [0, 1, 2], [8, 9, 7]))

    def test_places_of_those_that_clash(self):
        loose = [(1, 5, -100), (1, 0, -60), (-2, 1, -90), (0, -1, -70)]
        for spread in ((0, 1, 2), (0, 2, 6), (4, 5, 6), (1, 3, 5), (0, 5, 6)):
            halves = list(loose)
            for number, one in zip(spread, THREE):
                halves.insert(number, one)
            self.assertEqual(shared(halves), ("none", list(spread), [1, 1, 1]))
        for spread in ((0, 1), (0, 5), (4, 5), (2, 4)):
            halves = list(loose)
            for number, one in zip(spread, [(-1, -1, 4), (1, 1, -3)]):
                halves.insert(number, one)
            self.assertEqual(shared(halves), ("none", list(spread), [1, 1]))

    def test_alike_halves_that_clash(self):
        self.assertEqual(self.answer([one for one in THREE for _ in range(5)]), "none")
        self.assertEqual(self.answer(THREE * 7), "none")

    def test_each_three_of_small_halves(self):
        faces = [(a, b) for a in (-1, 0, 1) for b in (-1, 0, 1) if (a, b) != (0, 0)]
        small = [(a, b, c) for a, b in faces for c in (-1, 0, 1)]
        words = [self.answer(list(halves)) for halves in product(small, repeat=3)]
        self.assertEqual(set(words), {"spot", "none"})

    def test_lists_by_lot(self):
        lot = Random(12)
        words = []
        for _ in range(4000):
            wide = lot.choice((2, 5, 40, BIG))
            halves = []
            for _ in range(lot.randint(2, 9)):
                a = lot.randint(-wide, wide) or 1
                halves.append(half(a, lot.randint(-wide, wide), lot.randint(-2 * wide, wide)))
            words.append(self.answer(halves))
        self.assertGreater(min(words.count("spot"), words.count("none")), 500)

    def test_two_hundred_halves_round_a_spot(self):
        faces = [(a, b) for a in range(-9, 10) for b in range(-9, 10) if (a, b) != (0, 0)]
        for x, y, far in ((0, 0, 1), (17, -300, 40), (-BIG, BIG + 5, 3)):
            halves = [half(a, b, a * x + b * y - far) for a, b in faces[::2] + faces[:20]]
            self.assertEqual(len(halves), 200)
            self.assertEqual(self.answer(halves), "spot")
            self.assertEqual(self.answer(halves[::-1]), "spot")
            tight = [half(a, b, a * x + b * y) for a, b in faces[::2] + faces[:20]]
            self.assertEqual(shared(tight), ("spot", spot_of(x, y)))
            self.assertEqual(self.answer(halves + [half(1, 0, x + far + 1)]), "none")
            self.assertEqual(self.answer([half(2, 5, 2 * x + 5 * y + 9 * far)] + halves[:-1]), "none")

    def test_two_hundred_halves_each_beyond_those_before(self):
        halves = [(1, number, number * number) for number in range(200)]
        self.assertEqual(self.answer(halves), "spot")
        self.assertEqual(self.answer([(number, -1, number ** 3) for number in range(1, 201)]), "spot")
        self.assertEqual(self.answer(halves[1:] + [(-1, 0, BIG)]), "spot")
        self.assertEqual(self.answer(halves[:198] + [(-1, 0, 0), (0, -1, 0)]), "none")

    def test_nothing_is_near(self):
        wedge = [(BIG, -1, 0), (-BIG, 1, 0)]
        self.assertEqual(self.answer(wedge + [(0, 1, HUGE)]), "spot")
        self.assertEqual(self.answer([(BIG, -1, 1), (-BIG, 1, 0)]), "none")
        corner = [(BIG, 1 - BIG, 0), (-BIG - 1, BIG, 0)]
        self.assertEqual(self.answer(corner + [(-1, 0, 0)]), "spot")
        self.assertEqual(shared(corner + [(-1, 0, 0), (0, -1, 0)]), ("spot", spot_of(0, 0)))
        self.assertEqual(self.answer([(HUGE, 1, 1), (-HUGE - 1, -1, 0), (1, 0, 0)]), "none")

    def test_long_numbers(self):
        far = [(1, 0, HUGE), (-1, 0, -HUGE - 1), (0, 1, -HUGE), (0, -1, HUGE - 1)]
        self.assertEqual(self.answer(far), "spot")
        self.assertTrue(shared(far + [(1, 1, 2)]) == ("spot", ((HUGE + 1, 1), (1 - HUGE, 1))))
        self.assertEqual(self.answer(far + [(1, 1, 3)]), "none")

    def test_told_lists_are_the_askers(self):
        for halves in (THREE, [(1, 0, 1), (-1, 0, 0)]):
            first = shared(halves)
            kept = (first[0], list(first[1]), list(first[2]))
            first[1].append(9)
            first[2].clear()
            self.assertEqual(shared(halves), kept)
            again = shared(halves)
            self.assertIsNot(again[1], shared(halves)[1])
            self.assertIsNot(again[2], shared(halves)[2])


if __name__ == "__main__":
    unittest.main()
