import unittest
from itertools import permutations, product

from deepspot.errors import NotFour
from deepspot.parting import parted, ranks
from tests.plane import (
    BIG, HUGE, NAMED_HEAPS, depth_by_taking, fraction, long_heap, place, refused, some_heaps, spot_told_well, spot_of,
    whole,
)


class Parted(unittest.TestCase):
    def part(self, points, places, weights, at):
        self.assertIs(type(places), list)
        self.assertIs(type(weights), list)
        self.assertGreater(len(places), 0)
        self.assertEqual(places, sorted(set(places)))
        for number in places:
            whole(self, number)
            self.assertIn(number, range(4))
        self.assertEqual(len(weights), len(places))
        values = [fraction(self, weight) for weight in weights]
        self.assertGreater(min(values), 0)
        self.assertEqual(sum(values), 1)
        for k in (0, 1):
            self.assertEqual(sum(value * points[number][k] for value, number in zip(values, places)), at[k])

    def shown(self, points):
        """Looks that both parts meet in the spot, and gives the parts as a set of two."""
        handed = list(points)
        told = parted(points)
        self.assertEqual(points, handed)
        self.assertIs(type(told), tuple)
        self.assertEqual(len(told), 5)
        spot_told_well(self, told[4])
        self.part(points, told[0], told[2], place(told[4]))
        self.part(points, told[1], told[3], place(told[4]))
        self.assertEqual(set(told[0]) & set(told[1]), set())
        return {tuple(told[0]), tuple(told[1])}

    def test_all_fours_of_a_small_grid(self):
        grid = [(x, y) for x in range(3) for y in range(3)]
        for points in product(grid, repeat=4):
            self.shown(list(points))

    def test_none_among_the_others(self):
        points = [(0, 0), (4, 4), (4, 0), (0, 4)]
        self.assertEqual(self.shown(points), {(0, 1), (2, 3)})
        self.assertEqual(parted(points)[4], spot_of(2, 2))
        for places in permutations(range(4)):
            self.assertEqual(parted([points[number] for number in places])[4], spot_of(2, 2))
        self.assertEqual(self.shown([(0, 0), (5, 0), (4, 7), (1, 9)]), {(0, 2), (1, 3)})

    def test_one_among_the_others(self):
        self.assertEqual(self.shown([(0, 0), (6, 0), (0, 6), (1, 2)]), {(0, 1, 2), (3,)})
        self.assertEqual(self.shown([(0, 0), (1, 2), (6, 0), (0, 6)]), {(0, 2, 3), (1,)})
        self.assertEqual(parted([(0, 0), (6, 0), (0, 6), (1, 2)])[4], spot_of(1, 2))

    def test_three_on_one_line(self):
        # The one that is off the line is in neither part.
        self.assertEqual(self.shown([(0, 0), (2, 1), (5, 5), (6, 3)]), {(0, 3), (1,)})
        self.assertEqual(self.shown([(7, 0), (3, 5), (3, -1), (3, 0)]), {(1, 2), (3,)})

    def test_all_on_one_line(self):
        for right, up in ((2, 1), (0, 1), (1, 0), (0, -3), (BIG, -BIG - 1)):
            for steps in product(range(4), repeat=4):
                self.shown([(right * step, up * step) for step in steps])

    def test_alike_ones(self):
        self.shown([(1, 1)] * 4)
        self.shown([(1, 1), (2, 5)] * 2)
        for places in permutations([(1, 1), (1, 1), (0, 5), (3, -4)]):
            first, second = sorted(self.shown(list(places)))
            self.assertEqual([places[number] for number in first + second], [(1, 1), (1, 1)])
        for places in permutations([(1, 1), (1, 1), (1, 1), (3, -4)]):
            self.shown(list(places))

    def test_long_numbers(self):
        for figures in range(30, 60):
            self.shown(long_heap(4, figures))
        self.shown([(HUGE, 0), (0, HUGE), (-HUGE, 1), (0, -HUGE)])
        self.assertEqual(self.shown([(BIG, 0), (0, BIG), (-BIG, -BIG), (0, 1)]), {(0, 1, 2), (3,)})

    def test_not_four_are_refused(self):
        points = [(0, 0), (4, 4), (4, 0), (0, 4), (1, 1), (2, 2), (9, 9)]
        for many in (0, 1, 2, 3, 5, 6, 7):
            refused(self, NotFour, parted, points[:many])
        refused(self, NotFour, parted, [(1, 1)] * 12)

    def test_told_lists_are_the_askers(self):
        for points in ([(0, 0), (4, 4), (4, 0), (0, 4)], [(1, 1)] * 4):
            first = parted(points)
            kept = tuple(list(told) for told in first[:4])
            for told in first[:4]:
                told.append(7)
            self.assertEqual([len(told) for told in first[:4]], [len(told) + 1 for told in kept])
            self.assertEqual(parted(points)[:4], kept)


class Ranks(unittest.TestCase):
    def test_no_points(self):
        self.assertEqual(ranks([]), [])

    def test_many_heaps(self):
        for points in some_heaps(1, 8) + some_heaps(12, 12) + [long_heap(9)]:
            handed = list(points)
            told = ranks(points)
            self.assertEqual(points, handed)
            self.assertIs(type(told), list)
            for number in told:
                whole(self, number)
            self.assertEqual(told, [depth_by_taking(points, point) for point in points])

    def test_in_the_order_of_the_list(self):
        self.assertEqual(ranks([(0, 0), (4, 2), (2, 1), (6, 3), (-2, -1)]), [2, 2, 3, 1, 1])
        self.assertEqual(ranks(NAMED_HEAPS["square with its middle"]), [1, 1, 1, 1, 3])
        self.assertEqual(ranks([(2, 2), (0, 0), (4, 0), (4, 4), (0, 4)]), [3, 1, 1, 1, 1])
        self.assertEqual(ranks(NAMED_HEAPS["all but one alike"]), [4, 4, 4, 4, 1])
        self.assertEqual(ranks([(7, 7)] * 12), [12] * 12)

    def test_told_lists_are_the_askers(self):
        for points in ([], [(0, 0), (1, 1)]):
            first = ranks(points)
            kept = list(first)
            first.append(9)
            self.assertEqual(ranks(points), kept)


if __name__ == "__main__":
    unittest.main()
