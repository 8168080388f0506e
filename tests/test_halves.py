import math
import unittest

from deepspot.errors import NoHalf
from deepspot.halves import between, half, many_in, other_side, side
from tests.plane import BIG, HUGE, left, place, refused, some_halves, spot_of, whole, worth

GRID = [(x, y) for x in range(-2, 3) for y in range(-2, 3)]


class Half(unittest.TestCase):
    def test_small_numbers_of_either_sign(self):
        for a in range(-6, 7):
            for b in range(-6, 7):
                for c in range(-6, 7):
                    if (a, b) != (0, 0):
                        told = half(a, b, c)
                        common = math.gcd(a, b, c)
                        self.assertIs(type(told), tuple)
                        self.assertEqual([common * number for number in told], [a, b, c])
                        for number in told:
                            whole(self, number)

    def test_nought_among_the_numbers(self):
        self.assertEqual(half(0, 4, 6), (0, 2, 3))
        self.assertEqual(half(4, 0, -6), (2, 0, -3))
        self.assertEqual(half(-4, 6, 0), (-2, 3, 0))
        self.assertEqual(half(0, -9, 0), (0, -1, 0))
        self.assertEqual(half(9, 0, 0), (1, 0, 0))

    def test_all_three_are_divided_or_none(self):
        self.assertEqual(half(4, 6, 3), (4, 6, 3))
        self.assertEqual(half(6, 10, 15), (6, 10, 15))

    def test_long_numbers(self):
        self.assertEqual(half(6 * BIG, -10 * BIG, 4 * BIG), (3, -5, 2))
        self.assertEqual(half(-BIG, 0, BIG + 1), (-BIG, 0, BIG + 1))
        self.assertEqual(half(0, -HUGE, 5 * HUGE), (0, -1, 5))

    def test_first_two_nought_is_refused(self):
        for c in (0, 1, -1, BIG, -HUGE):
            refused(self, NoHalf, half, 0, 0, c)


class Between(unittest.TestCase):
    def test_left_hand_of_the_way(self):
        for one in GRID:
            for other in GRID:
                if one != other:
                    told = between(one, other)
                    self.assertEqual(half(*told), told)
                    for point in GRID:
                        turn = left(one, other, point)
                        self.assertEqual(side(told, spot_of(*point)), (turn > 0) - (turn < 0))

    def test_level_and_upright(self):
        self.assertEqual(between((0, 2), (5, 2)), (0, 1, 2))
        self.assertEqual(between((5, 2), (0, 2)), (0, -1, -2))
        self.assertEqual(between((3, 0), (3, 4)), (-1, 0, -3))
        self.assertEqual(between((3, 4), (3, 0)), (1, 0, 3))

    def test_long_numbers(self):
        self.assertEqual(between((-BIG, -BIG), (BIG, BIG)), (-1, 1, 0))
        self.assertEqual(between((BIG, 0), (0, BIG)), (-1, -1, -BIG))
        told = between((BIG, -HUGE), (-BIG, HUGE + 1))
        for point in ((BIG, -HUGE), (-BIG, HUGE + 1)):
            self.assertEqual(side(told, ((point[0], 1), (point[1], 1))), 0)

    def test_alike_points_are_refused(self):
        for point in ((0, 0), (3, -4), (BIG, -BIG), (HUGE, HUGE)):
            refused(self, NoHalf, between, point, point)
            refused(self, NoHalf, between, point, (point[0], point[1]))


class OtherSide(unittest.TestCase):
    def test_each_spot_changes_sides(self):
        for a, b, c in some_halves():
            one = half(a, b, c)
            other = other_side(one)
            self.assertEqual(half(*other), other)
            self.assertEqual(other_side(other), one)
            for point in GRID:
                spot = spot_of(*point)
                self.assertEqual(side(other, spot), -side(one, spot))

    def test_long_and_nought(self):
        self.assertEqual(other_side((BIG, 0, -BIG - 1)), (-BIG, 0, BIG + 1))
        self.assertEqual(other_side((0, -1, 0)), (0, 1, 0))
        for number in other_side((0, -1, 0)):
            whole(self, number)


class Side(unittest.TestCase):
    def test_small_numbers_of_either_sign(self):
        bottoms = (1, 2, 3)
        spots = [((x, p), (y, q)) for x in (-5, -1, 1, 7) for y in (-7, 1, 5) for p in bottoms for q in bottoms]
        for a, b, c in some_halves():
            one = half(a, b, c)
            for spot in spots:
                told = side(one, spot)
                whole(self, told)
                value = worth(one, place(spot))
                self.assertEqual(told, (value > 0) - (value < 0))

    def test_just_on_the_border(self):
        self.assertEqual(side((2, 3, 2), ((1, 2), (1, 3))), 0)
        self.assertEqual(side((-2, 3, 0), ((1, 2), (1, 3))), 0)
        self.assertEqual(side((3, 0, -2), ((-2, 3), (8, 7))), 0)
        self.assertEqual(side((0, -7, -8), ((-2, 3), (8, 7))), 0)

    def test_upright_and_level_borders(self):
        self.assertEqual(side((1, 0, 2), ((5, 2), (-9, 1))), 1)
        self.assertEqual(side((1, 0, 2), ((3, 2), (9, 1))), -1)
        self.assertEqual(side((0, -1, 2), ((5, 2), (-9, 1))), 1)
        self.assertEqual(side((0, -1, 2), ((5, 2), (9, 1))), -1)

    def test_nothing_is_near(self):
        one = (BIG, BIG + 1, 0)
        self.assertEqual(side(one, ((BIG + 1, BIG), (-1, 1))), 0)
        self.assertEqual(side(one, ((BIG * BIG + BIG + 1, BIG * BIG), (-1, 1))), 1)
        self.assertEqual(side(one, ((BIG * BIG + BIG - 1, BIG * BIG), (-1, 1))), -1)
        self.assertEqual(side((1, 0, 0), ((1, HUGE), (0, 1))), 1)
        self.assertEqual(side((1, 0, 0), ((-1, HUGE), (0, 1))), -1)


class ManyIn(unittest.TestCase):
    def test_small_halves(self):
        points = GRID + [(0, 0), (0, 0), (1, -2), (5, 5)]
        handed = list(points)
        for a, b, c in some_halves():
            one = half(a, b, c)
            told = many_in(one, points)
            whole(self, told)
            self.assertEqual(told, sum(1 for point in points if worth(one, point) >= 0))
        self.assertEqual(points, handed)

    def test_no_points(self):
        self.assertEqual(many_in((1, 0, 0), []), 0)

    def test_border_and_alike_ones_count(self):
        points = [(1, 5), (1, 5), (1, -5), (2, 0), (0, 0), (0, 0)]
        self.assertEqual(many_in((1, 0, 1), points), 4)
        self.assertEqual(many_in((-1, 0, -1), points), 5)
        self.assertEqual(many_in((0, 1, 0), points), 5)

    def test_long_numbers(self):
        points = [(BIG, BIG), (BIG, BIG - 1), (-BIG, -BIG), (HUGE, -HUGE)]
        self.assertEqual(many_in((1, 1, 2 * BIG), points), 1)
        self.assertEqual(many_in((1, 1, 2 * BIG - 1), points), 2)
        self.assertEqual(many_in((1, -1, 0), points), 4)

    def test_a_long_list(self):
        points = [(number, -number) for number in range(100000)]
        self.assertEqual(many_in((1, 0, 40000), points), 60000)


if __name__ == "__main__":
    unittest.main()
