import unittest
from fractions import Fraction

from deepspot.depths import depth
from deepspot.errors import NoPoints
from tests.plane import (
    BIG, HUGE, count_in, depth_by_taking, half_told_well, long_heap, place, refused, some_heaps, some_spots, spot_of,
    spots_of, whole, worth,
)


class Depth(unittest.TestCase):
    def shown(self, points, spot):
        """Looks that the half shows the depth, and gives the depth."""
        handed = list(points)
        told = depth(points, spot)
        self.assertEqual(points, handed)
        self.assertIs(type(told), tuple)
        self.assertEqual(len(told), 2)
        whole(self, told[0])
        half_told_well(self, told[1])
        self.assertEqual(worth(told[1], place(spot)), 0)
        self.assertEqual(count_in(told[1], points), told[0])
        return told[0]

    def test_spots_of_many_kinds(self):
        for points in some_heaps():
            for spot in some_spots(points):
                self.assertEqual(self.shown(points, spot), depth_by_taking(points, place(spot)))

    def test_twelve_points(self):
        for points in some_heaps(12, 12) + [[(x, y) for x in range(4) for y in range(3)], [(0, 0), (1, 2)] * 6]:
            for spot in some_spots(points)[::9]:
                self.assertEqual(self.shown(points, spot), depth_by_taking(points, place(spot)))

    def test_long_numbers(self):
        for points in (long_heap(7), long_heap(8, 60), [(BIG * x, BIG * x * x - 1) for x in range(-3, 4)]):
            for spot in some_spots(points)[::5]:
                self.assertEqual(self.shown(points, spot), depth_by_taking(points, place(spot)))
        self.assertEqual(self.shown([(HUGE, 0), (-HUGE, 0), (0, HUGE)], spot_of(0, 1)), 1)
        self.assertEqual(self.shown([(HUGE, 0), (-HUGE, 0), (0, HUGE)], spot_of(0, -1)), 0)

    def test_one_point(self):
        self.assertEqual(self.shown([(2, -3)], spot_of(2, -3)), 1)
        for spot in spots_of((2, -2), (2, -4), (1, -3), (3, -3), (-2, 3), ("5/2", -3), (BIG, BIG)):
            self.assertEqual(self.shown([(2, -3)], spot), 0)

    def test_alike_points_count_each(self):
        self.assertEqual(self.shown([(1, 1)] * 5, spot_of(1, 1)), 5)
        self.assertEqual(self.shown([(1, 1)] * 5, spot_of(1, "3/2")), 0)
        self.assertEqual(self.shown([(1, 1)] * 5 + [(0, 0)], spot_of(1, 1)), 5)
        self.assertEqual(self.shown([(1, 1)] * 5 + [(0, 0)], spot_of("1/2", "1/2")), 1)
        self.assertEqual(self.shown([(1, 1)] * 3 + [(0, 0), (2, 2), (0, 2), (2, 0)], spot_of(1, 1)), 5)

    def test_points_on_one_line(self):
        for right, up in ((2, 1), (0, 1), (1, 0), (-3, 2), (BIG, -1)):
            points = [(right * step, up * step) for step in (3, 0, 1, 4, 2)]
            depths = [self.shown(points, spot_of(right * step, up * step)) for step in range(-1, 6)]
            self.assertEqual(depths, [0, 1, 2, 3, 2, 1, 0])
            between = [self.shown(points, spot_of(Fraction(right * k, 2), Fraction(up * k, 2))) for k in (1, 3, 5, 7)]
            self.assertEqual(between, [1, 2, 2, 1])
            for step in (0, 2):
                self.assertEqual(self.shown(points, spot_of(right * step - up, up * step + right)), 0)

    def test_square(self):
        square = [(0, 0), (4, 0), (4, 4), (0, 4)]
        self.assertEqual(self.shown(square, spot_of(2, 2)), 2)
        self.assertEqual(self.shown(square + [(2, 2)], spot_of(2, 2)), 3)
        for spot in spots_of((0, 0), (2, 0), (4, 1), (1, 1), (1, 2), ("7/2", "1/3"), (2, Fraction(2 * BIG + 1, BIG))):
            self.assertEqual(self.shown(square, spot), 1)
        for spot in spots_of((-1, 0), (5, 4), (2, Fraction(-1, BIG)), (BIG, -BIG), (0, 5)):
            self.assertEqual(self.shown(square, spot), 0)

    def test_far_outside(self):
        for spot in spots_of((BIG, 0), (-BIG, 3), (0, -BIG), (Fraction(BIG * BIG, 7), BIG)):
            self.assertEqual(self.shown([(0, 0), (5, 0), (0, 5), (3, 3)], spot), 0)

    def test_no_points_are_refused(self):
        for spot in spots_of((0, 0), ("1/2", "-7/3"), (BIG, HUGE)):
            refused(self, NoPoints, depth, [], spot)


if __name__ == "__main__":
    unittest.main()
