"""Halves of the plane: tuples (a, b, c) that hold the spots where a x + b y is c or more."""

from deepspot.errors import NoHalf
from deepspot.ratios import divisor


def half(a, b, c):
    if a == 0 and b == 0:
        raise NoHalf("the first two numbers of a half are both 0")
    common = divisor(divisor(a, b), c)
    return (a // common, b // common, c // common)


def between(one, other):
    # The way from one to other, turned to the left, points into the half.
    a = one[1] - other[1]
    b = other[0] - one[0]
    # Of alike points both are 0, and so half refuses them.
    return half(a, b, a * one[0] + b * one[1])


def other_side(half):
    return (-half[0], -half[1], -half[2])


# How far other goes along the way that one goes, 0 where straight to its left or right; of halves the way they face.
def along(one, other):
    return one[0] * other[0] + one[1] * other[1]


def as_spot(point):
    return ((point[0], 1), (point[1], 1))


def bottoms(spot):
    return spot[0][1] * spot[1][1]


# Multiplied by the spot's bottoms, which are above 0: a whole number with the right sign.
def excess(half, spot):
    x = spot[0]
    y = spot[1]
    return half[0] * x[0] * y[1] + half[1] * y[0] * x[1] - half[2] * bottoms(spot)


def sign(number):
    if number > 0:
        return 1
    if number < 0:
        return -1
    return 0


def side(half, spot):
    return sign(excess(half, spot))


def many_in(half, points):
    return len([point for point in points if half[0] * point[0] + half[1] * point[1] >= half[2]])
