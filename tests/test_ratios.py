import math
import unittest
from fractions import Fraction

from deepspot.errors import NoNumber
from deepspot.ratios import below, divisor, ratio
from tests.plane import BIG, HUGE, fraction, refused, whole


class Divisor(unittest.TestCase):
    def test_small_numbers_of_either_sign(self):
        for one in range(-30, 31):
            for other in range(-30, 31):
                told = divisor(one, other)
                whole(self, told)
                self.assertEqual(told, math.gcd(one, other))

    def test_nought(self):
        self.assertEqual(divisor(0, 0), 0)
        self.assertEqual(divisor(0, 12), 12)
        self.assertEqual(divisor(12, 0), 12)
        self.assertEqual(divisor(-12, 0), 12)
        self.assertEqual(divisor(0, -12), 12)

    def test_long_numbers(self):
        self.assertEqual(divisor(BIG * 91, BIG * -35), BIG * 7)
        self.assertEqual(divisor(-BIG * (BIG + 1), BIG * (BIG + 2)), BIG * math.gcd(BIG + 1, BIG + 2))
        self.assertEqual(divisor(2 ** 400, 6 ** 150), 2 ** 150)
        self.assertEqual(divisor(HUGE * 6, HUGE * 4), HUGE * 2)


class Ratio(unittest.TestCase):
    def test_small_numbers_of_either_sign(self):
        for top in range(-24, 25):
            for bottom in range(-24, 25):
                if bottom != 0:
                    told = ratio(top, bottom)
                    self.assertEqual(fraction(self, told), Fraction(top, bottom))

    def test_nought_on_top(self):
        for bottom in (1, -1, 8, -8, BIG, -BIG):
            self.assertEqual(ratio(0, bottom), (0, 1))

    def test_bottom_below_nought(self):
        self.assertEqual(ratio(6, -4), (-3, 2))
        self.assertEqual(ratio(-6, -4), (3, 2))
        self.assertEqual(ratio(5, -1), (-5, 1))

    def test_long_numbers(self):
        self.assertEqual(ratio(BIG * 15, BIG * -10), (-3, 2))
        self.assertEqual(ratio(-BIG, 3 * 10 ** 40), (-BIG, 3 * 10 ** 40))
        self.assertEqual(ratio(HUGE * 3, -HUGE * 9), (-1, 3))
        self.assertTrue(ratio(HUGE, 1) == (HUGE, 1))

    def test_bottom_of_nought_is_refused(self):
        for top in (0, 1, -1, BIG, -HUGE):
            refused(self, NoNumber, ratio, top, 0)


class Below(unittest.TestCase):
    def test_small_fractions_of_either_sign(self):
        some = [ratio(top, bottom) for top in range(-7, 8) for bottom in range(1, 7)]
        for one in some:
            for other in some:
                self.assertIs(below(one, other), Fraction(*one) < Fraction(*other))

    def test_long_fractions(self):
        self.assertIs(below((BIG, BIG + 1), (BIG + 1, BIG + 2)), True)
        self.assertIs(below((BIG + 1, BIG + 2), (BIG, BIG + 1)), False)
        self.assertIs(below((-BIG, BIG + 1), (-BIG - 1, BIG + 2)), False)
        self.assertIs(below((BIG, BIG + 1), (BIG, BIG + 1)), False)
        self.assertIs(below((-HUGE, 7), (HUGE, 7)), True)


if __name__ == "__main__":
    unittest.main()
