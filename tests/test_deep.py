import unittest
from fractions import Fraction
from math import gcd

from deepspot.deep import deepest, region, strong
from deepspot.errors import NoDepth, NoPoints
from deepspot.regions import hull
from tests.plane import (
    BIG, HUGE, NAMED_HEAPS, count_in, crossings, depth_by_taking, half_told_well, long_heap, nothing_shared, place,
    refused, some_heaps, spot_of, spot_told_well, spots_of, told_well, where, whole, worth,
)


def strong_by_looking(points, many, wide):
    """Of all halves that could have two of the points on the border, those that point 14 speaks of."""
    reach = range(-wide, wide + 1)
    far = range(-2 * wide * wide, 2 * wide * wide + 1)
    found = []
    for a in reach:
        for b in reach:
            for c in far:
                if (a, b) != (0, 0) and gcd(a, b, c) == 1:
                    border = {point for point in points if a * point[0] + b * point[1] == c}
                    if len(border) > 1 or (len(border) == 1 and a * b == 0):
                        if count_in((a, b, c), points) >= many:
                            found.append((a, b, c))
    return found


class Strong(unittest.TestCase):
    def test_small_grids(self):
        heaps = [points for points in some_heaps(1, 6) if all(0 <= abs(k) <= 2 for point in points for k in point)]
        self.assertGreater(len(heaps), 10)
        for points in heaps + [[(0, 0), (1, 0), (2, 1), (0, 2), (1, 1), (2, 2), (2, 0), (0, 0)]]:
            handed = list(points)
            every = strong_by_looking(points, -1, 4)
            for many in range(-1, len(points) + 2):
                wanted = [one for one in every if count_in(one, points) >= many]
                self.assertEqual(strong(points, many), wanted)
            self.assertEqual(points, handed)

    def test_one_point(self):
        four = [(-1, 0, -2), (0, -1, 3), (0, 1, -3), (1, 0, 2)]
        for many in (-BIG, -1, 0, 1):
            self.assertEqual(strong([(2, -3)], many), four)
        for many in (2, 3, BIG):
            self.assertEqual(strong([(2, -3)], many), [])
        self.assertEqual(strong([(2, -3)] * 5, 5), four)
        self.assertEqual(strong([(2, -3)] * 5, 6), [])

    def test_two_points(self):
        told = strong([(3, 1), (0, 0)], 0)
        wanted = [
            (-1, 0, -3), (-1, 0, 0), (-1, 3, 0), (0, -1, -1), (0, -1, 0), (0, 1, 0), (0, 1, 1),
            (1, -3, 0), (1, 0, 0), (1, 0, 3),
        ]
        self.assertEqual(told, wanted)
        both = [(-1, 0, -3), (-1, 3, 0), (0, -1, -1), (0, 1, 0), (1, -3, 0), (1, 0, 0)]
        self.assertEqual(strong([(3, 1), (0, 0)], 2), both)

    def test_numbers_of_the_count_and_around(self):
        square = [(0, 0), (4, 0), (4, 4), (0, 4)]
        self.assertEqual(strong(square, 4), [(-1, 0, -4), (0, -1, -4), (0, 1, 0), (1, 0, 0)])
        self.assertEqual(strong(square, 5), [])
        self.assertEqual(len(strong(square, 3)), 8)
        self.assertEqual(len(strong(square, 2)), 12)
        self.assertEqual(strong(square, 0), strong(square, -BIG))

    def test_slanted_line(self):
        points = NAMED_HEAPS["slanted line"]
        self.assertEqual(strong(points, 5), [(-1, 0, -6), (-1, 2, 0), (0, -1, -3), (0, 1, -1), (1, -2, 0), (1, 0, -2)])

    def test_twelve_points_and_long_numbers(self):
        self.assertEqual(len(strong(long_heap(12), 0)), 180)
        for points in (long_heap(12), [(BIG * k, k * k * k - BIG) for k in range(-6, 6)]):
            told = strong(points, 0)
            self.assertEqual(told, sorted(set(told)))
            for one in told:
                half_told_well(self, one)
                border = [point for point in points if worth(one, point) == 0]
                self.assertGreaterEqual(len(border), 1 if 0 in one[:2] else 2)
            for many in (1, 5, 11, 12, 13):
                self.assertEqual(strong(points, many), [one for one in told if count_in(one, points) >= many])

    def test_no_points_are_refused(self):
        for many in (-1, 0, 1, BIG):
            refused(self, NoPoints, strong, [], many)


class Region(unittest.TestCase):
    def all_depths(self, points):
        handed = list(points)
        depths = {at: depth_by_taking(points, at) for at in crossings(points)}
        for k in range(1, len(points) + 2):
            told = region(points, k)
            told_well(self, told)
            # Both are convex and have their corners among these spots, so no other need be looked at.
            for corner in told:
                self.assertGreaterEqual(depth_by_taking(points, place(corner)), k)
            for at, depth in depths.items():
                self.assertEqual(where(told, spot_of(*at)) >= 0, depth >= k)
        self.assertEqual(points, handed)

    def test_many_heaps(self):
        for points in some_heaps(1, 6):
            self.all_depths(points)

    def test_long_numbers(self):
        self.all_depths(long_heap(6))
        self.all_depths([(BIG, BIG), (-BIG, BIG), (BIG, -BIG), (-BIG, -BIG), (1, 0)])

    def test_of_one_it_is_the_hull(self):
        for points in some_heaps(1, 12) + [long_heap(12)]:
            self.assertEqual(region(points, 1), hull(points))

    def test_above_the_count_it_is_empty(self):
        for points in NAMED_HEAPS.values():
            for more in (1, 2, BIG, HUGE):
                self.assertEqual(region(points, len(points) + more), [])

    def test_of_the_count(self):
        self.assertEqual(region([(2, -3)], 1), spots_of((2, -3)))
        self.assertEqual(region([(2, -3)] * 7, 7), spots_of((2, -3)))
        self.assertEqual(region([(0, 0), (3, 1)], 2), [])
        self.assertEqual(region([(0, 0), (3, 1), (0, 0)], 2), spots_of((0, 0)))
        self.assertEqual(region([(0, 0), (3, 1), (0, 0)], 3), [])

    def test_lines(self):
        slanted = NAMED_HEAPS["slanted line"]
        self.assertEqual(region(slanted, 1), spots_of((-2, -1), (6, 3)))
        self.assertEqual(region(slanted, 2), spots_of((0, 0), (4, 2)))
        self.assertEqual(region(slanted, 3), spots_of((2, 1)))
        self.assertEqual(region(slanted, 4), [])
        upright = NAMED_HEAPS["upright line"]
        self.assertEqual(region(upright, 1), spots_of((3, -1), (3, 9)))
        self.assertEqual(region(upright, 2), spots_of((3, 0), (3, 5)))
        self.assertEqual(region(upright, 3), [])
        level = NAMED_HEAPS["level line"]
        self.assertEqual(region(level, 1), spots_of((-1, 3), (9, 3)))
        self.assertEqual(region(level, 2), spots_of((0, 3), (5, 3)))
        self.assertEqual(region(level, 3), spots_of((0, 3)))

    def test_more_corners(self):
        square = [(0, 0), (4, 0), (4, 4), (0, 4)]
        self.assertEqual(region(square, 2), spots_of((2, 2)))
        five = NAMED_HEAPS["five corners"]
        inner = region(five, 2)
        self.assertEqual(len(inner), 5)
        self.assertEqual(inner[0], spot_of(Fraction(30, 29), Fraction(90, 29)))

    def test_refused(self):
        for k in (1, 2, 0, -1, -BIG, HUGE):
            refused(self, NoPoints, region, [], k)
        for k in (0, -1, -2, -BIG, -HUGE):
            refused(self, NoDepth, region, [(0, 0), (1, 2), (5, 5)], k)
            refused(self, NoDepth, region, [(0, 0)], k)

    def test_told_lists_are_the_askers(self):
        points = [(0, 0), (6, 0), (8, 5), (3, 9), (-2, 5)]
        for k in (1, 2, 3):
            first = region(points, k)
            kept = list(first)
            first.append(spot_of(9, 9))
            first.reverse()
            self.assertEqual(region(points, k), kept)
        first = strong(points, 3)
        kept = list(first)
        first.clear()
        self.assertEqual(strong(points, 3), kept)


class Deepest(unittest.TestCase):
    def shown(self, points):
        """Looks that depth and paper show each other, and gives the depth."""
        handed = list(points)
        told = deepest(points)
        self.assertEqual(points, handed)
        self.assertIs(type(told), tuple)
        self.assertEqual(len(told), 4)
        whole(self, told[0])
        spot_told_well(self, told[1])
        self.assertEqual(depth_by_taking(points, place(told[1])), told[0])
        self.assertGreaterEqual(3 * told[0], len(points))
        self.assertIs(type(told[2]), list)
        if told[0] == len(points):
            self.assertEqual(told[2:], ([], []))
        else:
            for one in told[2]:
                half_told_well(self, one)
                self.assertGreaterEqual(count_in(one, points), len(points) - told[0])
            nothing_shared(self, told[2], told[3])
        return told[0]

    def test_many_heaps(self):
        for points in some_heaps(1, 8):
            self.assertEqual(self.shown(points), max(depth_by_taking(points, at) for at in crossings(points)))

    def test_twelve_points(self):
        for points in some_heaps(12, 12) + [[(x, x * x) for x in range(12)], [(0, 0), (5, 1), (2, 7)] * 4]:
            self.shown(points)

    def test_long_numbers(self):
        for many in (4, 9, 12):
            self.shown(long_heap(many))
        self.assertEqual(self.shown([(BIG, 0), (0, BIG), (-BIG, -BIG)]), 1)
        self.assertEqual(self.shown([(HUGE, HUGE), (-HUGE, -HUGE), (0, 0)]), 2)

    def test_known_depths(self):
        self.assertEqual(deepest([(2, -3)]), (1, spot_of(2, -3), [], []))
        self.assertEqual(deepest([(2, -3)] * 12), (12, spot_of(2, -3), [], []))
        self.assertEqual(deepest(NAMED_HEAPS["slanted line"])[:2], (3, spot_of(2, 1)))
        self.assertEqual(deepest(NAMED_HEAPS["square"])[:2], (2, spot_of(2, 2)))
        self.assertEqual(deepest(NAMED_HEAPS["square with its middle"])[:2], (3, spot_of(2, 2)))
        self.assertEqual(deepest(NAMED_HEAPS["all but one alike"])[:2], (4, spot_of(1, 1)))
        self.assertEqual(deepest([(0, 0), (3, 1), (0, 0)])[:2], (2, spot_of(0, 0)))
        # No spot is deeper than a third of the points here.
        self.assertEqual(self.shown(NAMED_HEAPS["alike corners"]), 2)
        self.assertEqual(self.shown([(0, 0), (5, 1), (2, 7)] * 4), 4)

    def test_no_points_are_refused(self):
        refused(self, NoPoints, deepest, [])

    def test_told_lists_are_the_askers(self):
        for points in ([(0, 0), (5, 1), (2, 7)], [(1, 1)] * 3):
            first = deepest(points)
            kept = (first[0], first[1], list(first[2]), list(first[3]))
            first[2].append((1, 0, 0))
            first[3].insert(0, 5)
            self.assertEqual(deepest(points), kept)
            self.assertIsNot(first[2], first[3])


if __name__ == "__main__":
    unittest.main()
