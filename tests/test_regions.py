import unittest
from fractions import Fraction

from deepspot.halves import half, other_side
from deepspot.regions import clipped, hull, lies_in
from tests.plane import (
    BIG, HUGE, on_piece, place, some_halves, some_point_lists, spot_of, spots_of, told_well, where, whole, worth,
)

SQUARE = spots_of((0, 0), (4, 0), (4, 4), (0, 4))
STRETCH = spots_of((0, 0), (4, 2))
ALONE = spots_of((3, -2))
# Corners with fractions, one of them with the least x but not the least y.
ODD = spots_of(
    (Fraction(-1, 2), Fraction(1, 3)), (Fraction(1, 5), Fraction(-7, 2)), (2, 0), (Fraction(5, 3), Fraction(9, 4)),
)


def some_regions():
    regions = [[], ALONE, STRETCH, SQUARE, ODD, spots_of((1, -1), (1, 3)), spots_of((-1, 2), (3, 2))]
    regions.append(spots_of((Fraction(1, 3), Fraction(5, 2)), (Fraction(7, 2), Fraction(-2, 3))))
    for points in some_point_lists():
        region = hull(points)
        if region not in regions:
            regions.append(region)
    return regions


def meets(region, one):
    """The spots that a clipped region is made of: corners in the half, and where sides go through its border."""
    corners = [place(corner) for corner in region]
    found = [corner for corner in corners if worth(one, corner) >= 0]
    for k in range(len(corners)):
        start = corners[k - 1]
        end = corners[k]
        rise = worth(one, end) - worth(one, start)
        if rise != 0:
            step = -worth(one, start) / rise
            if 0 <= step <= 1:
                found.append(tuple(start[k] + step * (end[k] - start[k]) for k in (0, 1)))
    return found


class Hull(unittest.TestCase):
    def least_region(self, points):
        handed = list(points)
        told = hull(points)
        self.assertEqual(points, handed)
        told_well(self, told)
        # Corners that are points, and no point outside: there is but one such region.
        for corner in told:
            self.assertIn(place(corner), points)
        for point in points:
            self.assertGreaterEqual(where(told, spot_of(*point)), 0)

    def test_small_lists(self):
        for points in some_point_lists():
            self.least_region(points)
            self.least_region(points[::-1] + points[:2])

    def test_no_points(self):
        self.assertEqual(hull([]), [])

    def test_one_point_and_alike_ones(self):
        self.assertEqual(hull([(3, -2)]), ALONE)
        self.assertEqual(hull([(3, -2)] * 5), ALONE)
        self.assertEqual(hull([(4, 2), (0, 0), (4, 2), (0, 0)]), STRETCH)

    def test_all_on_one_line(self):
        self.assertEqual(hull([(2, 1), (4, 2), (0, 0), (2, 1)]), STRETCH)
        self.assertEqual(hull([(2, -1), (-2, 1), (0, 0)]), spots_of((-2, 1), (2, -1)))
        self.assertEqual(hull([(3, 5), (3, -1), (3, 0), (3, 9)]), spots_of((3, -1), (3, 9)))
        self.assertEqual(hull([(5, 3), (-1, 3), (0, 3), (9, 3)]), spots_of((-1, 3), (9, 3)))

    def test_points_on_a_side_are_no_corners(self):
        points = [(2, 0), (4, 4), (4, 1), (0, 0), (2, 4), (0, 3), (4, 0), (0, 4), (2, 2), (1, 0)]
        self.assertEqual(hull(points), SQUARE)
        self.assertEqual(hull([(0, 0), (6, 3), (2, 1), (4, 2), (0, 9)]), spots_of((0, 0), (6, 3), (0, 9)))

    def test_round_to_the_left_from_the_least(self):
        self.assertEqual(hull([(0, 4), (4, 4), (4, 0), (0, 0)]), SQUARE)
        self.assertEqual(hull([(2, 7), (0, 5), (1, -8)]), spots_of((0, 5), (1, -8), (2, 7)))

    def test_long_numbers(self):
        self.least_region([(BIG, -BIG), (-BIG, BIG), (0, 1), (BIG, BIG), (0, 0)])
        self.assertEqual(hull([(-BIG, 0), (BIG, 1), (0, 1)]), spots_of((-BIG, 0), (BIG, 1), (0, 1)))
        self.assertEqual(hull([(-BIG, -BIG), (BIG, BIG), (7, 7)]), spots_of((-BIG, -BIG), (BIG, BIG)))
        self.assertTrue(hull([(HUGE, 0), (0, 0), (0, HUGE)]) == spots_of((0, 0), (HUGE, 0), (0, HUGE)))

    def test_a_long_list(self):
        heap = [(x, y) for x in range(250) for y in range(200)]
        self.assertEqual(hull(heap), spots_of((0, 0), (249, 0), (249, 199), (0, 199)))
        bow = [(x, x * x) for x in range(20000)]
        self.assertEqual(hull(bow[::-1]), spots_of(*bow))
        self.assertEqual(hull([(x, 2 * x) for x in range(20000)]), spots_of((0, 0), (19999, 39998)))


class Clipped(unittest.TestCase):
    def shared_part(self, region, one):
        handed = list(region)
        told = clipped(region, one)
        self.assertEqual(region, handed)
        self.assertIsNot(told, region)
        told_well(self, told)
        for corner in told:
            self.assertGreaterEqual(where(region, corner), 0)
            self.assertGreaterEqual(worth(one, place(corner)), 0)
        for found in meets(region, one):
            self.assertGreaterEqual(where(told, spot_of(*found)), 0)

    def test_small_regions_and_halves(self):
        for region in some_regions():
            for a, b, c in some_halves():
                self.shared_part(region, half(a, b, c))

    def test_nothing(self):
        self.assertEqual(clipped([], (1, 2, 3)), [])
        self.assertEqual(clipped([], (0, -1, -3)), [])

    def test_a_spot_alone(self):
        self.assertEqual(clipped(ALONE, (1, 0, 2)), ALONE)
        self.assertEqual(clipped(ALONE, (1, 0, 3)), ALONE)
        self.assertEqual(clipped(ALONE, (1, 0, 4)), [])

    def test_a_stretch(self):
        middle = spot_of(1, Fraction(1, 2))
        self.assertEqual(clipped(STRETCH, (1, 0, 1)), [middle, STRETCH[1]])
        self.assertEqual(clipped(STRETCH, (-1, 0, -1)), [STRETCH[0], middle])
        self.assertEqual(clipped(STRETCH, (1, 0, 4)), [STRETCH[1]])
        self.assertEqual(clipped(STRETCH, (-1, 0, 0)), [STRETCH[0]])
        self.assertEqual(clipped(STRETCH, (1, 0, 5)), [])
        self.assertEqual(clipped(STRETCH, (1, 0, 0)), STRETCH)
        self.assertEqual(clipped(STRETCH, (1, -2, 0)), STRETCH)
        self.assertEqual(clipped(STRETCH, (-1, 2, 0)), STRETCH)

    def test_border_through_a_corner(self):
        self.assertEqual(clipped(SQUARE, (1, 1, 0)), SQUARE)
        self.assertEqual(clipped(SQUARE, (-1, -1, 0)), [SQUARE[0]])
        self.assertEqual(clipped(SQUARE, (1, 1, 8)), [SQUARE[2]])
        self.assertEqual(clipped(SQUARE, (1, -1, 0)), spots_of((0, 0), (4, 0), (4, 4)))
        self.assertEqual(clipped(SQUARE, (-1, 1, 0)), spots_of((0, 0), (4, 4), (0, 4)))
        self.assertEqual(clipped(SQUARE, (2, -1, 0)), spots_of((0, 0), (4, 0), (4, 4), (2, 4)))

    def test_border_along_a_side(self):
        self.assertEqual(clipped(SQUARE, (0, 1, 0)), SQUARE)
        self.assertEqual(clipped(SQUARE, (0, -1, 0)), spots_of((0, 0), (4, 0)))
        self.assertEqual(clipped(SQUARE, (1, 0, 4)), spots_of((4, 0), (4, 4)))
        self.assertEqual(clipped(SQUARE, (0, 1, 4)), spots_of((0, 4), (4, 4)))
        self.assertEqual(clipped(SQUARE, (-1, 0, 0)), spots_of((0, 0), (0, 4)))

    def test_border_beside_the_region(self):
        self.assertEqual(clipped(SQUARE, (1, 1, -1)), SQUARE)
        self.assertEqual(clipped(SQUARE, (1, 1, 9)), [])

    def test_border_through_two_sides(self):
        self.assertEqual(clipped(SQUARE, (1, 0, 1)), spots_of((1, 0), (4, 0), (4, 4), (1, 4)))
        self.assertEqual(clipped(SQUARE, (-2, 0, -3)), spots_of((0, 0), ("3/2", 0), ("3/2", 4), (0, 4)))
        self.assertEqual(clipped(SQUARE, (3, 3, 1)), spots_of((0, "1/3"), ("1/3", 0), (4, 0), (4, 4), (0, 4)))
        self.assertEqual(clipped(SQUARE, (-3, -3, -1)), spots_of((0, 0), ("1/3", 0), (0, "1/3")))

    def test_long_numbers(self):
        wide = spots_of((-BIG, -BIG), (BIG, -BIG), (BIG, BIG), (-BIG, BIG))
        for one in ((1, 0, 0), (BIG, 1, 3), (-BIG, BIG + 1, -7), (1, 1, 2 * BIG), (1, 1, 2 * BIG + 1)):
            self.shared_part(wide, one)
            self.shared_part(wide, other_side(one))
        self.assertEqual(clipped(wide, (1, 1, 2 * BIG)), [wide[2]])
        self.assertEqual(clipped(spots_of((0, 0), (BIG, 0)), (3, 0, 1)), spots_of((Fraction(1, 3), 0), (BIG, 0)))
        told = clipped(spots_of((0, 0), (1, 1)), half(2 * HUGE, 0, 1))
        self.assertTrue(told == spots_of((Fraction(1, 2 * HUGE), Fraction(1, 2 * HUGE)), (1, 1)))

    def test_clipped_again_and_again(self):
        region = SQUARE
        for one in ((2, 1, 1), (-1, 3, 1), (-3, -2, -17), (1, -2, -6), (5, 7, 9)):
            self.shared_part(region, one)
            region = clipped(region, one)
        self.assertGreater(len(region), 4)


class LiesIn(unittest.TestCase):
    def test_small_regions(self):
        steps = [Fraction(step, 2) for step in range(-2, 10)]
        spots = [spot_of(x, y) for x in steps for y in steps]
        spots += spots_of(("1/3", "1/3"), ("4/3", "2/3"), ("-1/2", "1/3"), ("1/5", "-7/2"), ("11/10", "-7/4"))
        for region in some_regions():
            for spot in spots:
                told = lies_in(region, spot)
                whole(self, told)
                self.assertEqual(told, where(region, spot))

    def test_corners_and_middles_of_sides(self):
        for region in some_regions():
            handed = list(region)
            for k in range(len(region)):
                one = place(region[k - 1])
                other = place(region[k])
                middle = ((one[0] + other[0]) / 2, (one[1] + other[1]) / 2)
                self.assertTrue(on_piece(one, other, middle))
                self.assertEqual(lies_in(region, region[k]), 0)
                self.assertEqual(lies_in(region, spot_of(*middle)), 0)
            self.assertEqual(region, handed)

    def test_nothing_holds_nothing(self):
        self.assertEqual(lies_in([], spot_of(0, 0)), -1)

    def test_a_spot_alone(self):
        self.assertEqual(lies_in(ALONE, spot_of(3, -2)), 0)
        for spot in spots_of((3, -1), (3, -3), (2, -2), (4, -2), (-3, 2), (0, 0)):
            self.assertEqual(lies_in(ALONE, spot), -1)

    def test_a_stretch(self):
        for spot in spots_of((0, 0), (4, 2), (2, 1), ("1/3", "1/6")):
            self.assertEqual(lies_in(STRETCH, spot), 0)
        for spot in spots_of((-2, -1), (6, 3), (2, 2), (2, 0), ("1/3", "1/7")):
            self.assertEqual(lies_in(STRETCH, spot), -1)
        upright = spots_of((1, -1), (1, 3))
        self.assertEqual([lies_in(upright, spot_of(1, y)) for y in range(-2, 5)], [-1, 0, 0, 0, 0, 0, -1])
        level = spots_of((-1, 2), (3, 2))
        self.assertEqual([lies_in(level, spot_of(x, 2)) for x in range(-2, 5)], [-1, 0, 0, 0, 0, 0, -1])

    def test_more_corners(self):
        self.assertEqual(lies_in(SQUARE, spot_of("1/9", "35/9")), 1)
        self.assertEqual(lies_in(SQUARE, spot_of(0, "35/9")), 0)
        self.assertEqual(lies_in(SQUARE, spot_of("-1/9", "35/9")), -1)
        # On the line of a side, but not on the side.
        self.assertEqual(lies_in(SQUARE, spot_of(0, 5)), -1)
        self.assertEqual(lies_in(SQUARE, spot_of(-1, 4)), -1)

    def test_nothing_is_near(self):
        wide = spots_of((0, 0), (BIG, 0), (0, BIG))
        self.assertEqual(lies_in(wide, spot_of(Fraction(BIG, 3), Fraction(2 * BIG, 3))), 0)
        hair = Fraction(1, BIG * BIG)
        self.assertEqual(lies_in(wide, spot_of(Fraction(BIG, 3) - hair, Fraction(2 * BIG, 3))), 1)
        self.assertEqual(lies_in(wide, spot_of(Fraction(BIG, 3) + hair, Fraction(2 * BIG, 3))), -1)
        self.assertEqual(lies_in(spots_of((-BIG, 0), (BIG, 1)), spot_of(0, Fraction(1, 2))), 0)
        self.assertEqual(lies_in(spots_of((-BIG, 0), (BIG, 1)), spot_of(0, Fraction(1, 2) + hair)), -1)
        self.assertEqual(lies_in(spots_of((0, 0), (HUGE, 0), (0, HUGE)), spot_of(HUGE // 3, 1)), 1)


class OwnLists(unittest.TestCase):
    def test_a_told_hull_is_the_askers(self):
        for points in ([], [(3, -2)], [(0, 0), (4, 2)], [(0, 0), (4, 0), (4, 4), (0, 4)]):
            first = hull(points)
            kept = list(first)
            first.append(spot_of(9, 9))
            first.reverse()
            self.assertEqual(hull(points), kept)
            second = hull(points)
            points.append((-9, 5))
            hull(points)
            self.assertEqual(second, kept)

    def test_a_told_clipping_is_the_askers(self):
        for region in ([], list(ALONE), list(STRETCH), list(SQUARE)):
            for one in ((1, 0, -9), (1, 0, 2), (1, 0, 9)):
                handed = list(region)
                first = clipped(region, one)
                kept = list(first)
                first.append(spot_of(9, 9))
                first.reverse()
                self.assertEqual(region, handed)
                second = clipped(region, one)
                self.assertEqual(second, kept)
                region.append(spot_of(9, 9))
                self.assertEqual(second, kept)
                region.pop()


if __name__ == "__main__":
    unittest.main()
