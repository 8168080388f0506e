"""What the tests reckon in their own way, with Python's fractions, to hold the program's answers against."""

from fractions import Fraction
from itertools import combinations
from math import gcd
from random import Random

from deepspot.errors import NoDepth, NoHalf, NoNumber, NoPoints, NotFour, SpotError

REFUSALS = (NoNumber, NoHalf, NoPoints, NoDepth, NotFour)

# More than thirty figures, and more than Python is willing to write out by itself.
BIG = 10 ** 34 + 7
HUGE = 10 ** 5000 + 3


def refused(test, refusal, ask, *handed):
    """Asks, and looks that just this refusal comes, caught under each of its names."""
    for name in (refusal, SpotError, ValueError):
        with test.assertRaises(name):
            ask(*handed)
    for name in REFUSALS:
        if name is not refusal:
            test.assertNotIsInstance(error_of(ask, handed), name)
    test.assertIs(type(error_of(ask, handed)), refusal)


def error_of(ask, handed):
    try:
        ask(*handed)
    except ValueError as error:
        return error
    return None


def whole(test, number):
    test.assertIs(type(number), int)


def fraction(test, told):
    """Looks that a fraction has the one form of point 4, and gives Python's own."""
    test.assertIs(type(told), tuple)
    test.assertEqual(len(told), 2)
    whole(test, told[0])
    whole(test, told[1])
    test.assertGreaterEqual(told[1], 1)
    value = Fraction(told[0], told[1])
    test.assertEqual((value.numerator, value.denominator), told)
    return value


def place(spot):
    return (Fraction(*spot[0]), Fraction(*spot[1]))


def spot_of(x, y):
    x = Fraction(x)
    y = Fraction(y)
    return ((x.numerator, x.denominator), (y.numerator, y.denominator))


def spots_of(*points):
    return [spot_of(*point) for point in points]


def worth(half, at):
    return half[0] * at[0] + half[1] * at[1] - half[2]


def left(one, other, third):
    return (other[0] - one[0]) * (third[1] - one[1]) - (other[1] - one[1]) * (third[0] - one[0])


def on_piece(one, other, at):
    if left(one, other, at) != 0:
        return False
    return all(min(one[k], other[k]) <= at[k] <= max(one[k], other[k]) for k in (0, 1))


def in_triangle(one, other, third, at):
    turns = (left(one, other, at), left(other, third, at), left(third, one, at))
    return min(turns) >= 0


def where(region, spot):
    """Point 11 by triangles that share the first corner, and by the pieces of the border."""
    corners = [place(corner) for corner in region]
    at = place(spot)
    if any(on_piece(corners[k - 1], corners[k], at) for k in range(len(corners))):
        return 0
    fan = zip(corners[1:-1], corners[2:])
    return 1 if any(in_triangle(corners[0], one, other, at) for one, other in fan) else -1


def told_well(test, region):
    """Looks that a region has the one form of point 8."""
    test.assertIs(type(region), list)
    for spot in region:
        test.assertIs(type(spot), tuple)
        test.assertEqual(len(spot), 2)
        fraction(test, spot[0])
        fraction(test, spot[1])
    corners = [place(spot) for spot in region]
    test.assertEqual(len(set(corners)), len(corners))
    if corners:
        test.assertEqual(min(corners), corners[0])
    if len(corners) > 2:
        for k in range(len(corners)):
            one = corners[k - 1]
            other = corners[k]
            # All others strictly at the left of each side: round just once, nowhere straight on.
            for third in corners:
                if third not in (one, other):
                    test.assertGreater(left(one, other, third), 0)


def some_point_lists():
    """Lists of up to four points of a small grid, and some longer ones."""
    grid = [(x, y) for x in range(3) for y in range(3)]
    for many in range(5):
        for points in combinations(grid, many):
            yield list(points)
    yield grid + grid
    yield [(x, x * x) for x in range(-4, 5)]
    yield [(x * x, -x) for x in range(-3, 4)] + [(0, 0)] * 3
    yield [(0, 0), (7, 1), (9, 4), (8, 8), (3, 9), (-2, 6), (-3, 2), (4, 4)]


def some_halves():
    for a in range(-2, 3):
        for b in range(-2, 3):
            for c in range(-3, 6):
                if (a, b) != (0, 0):
                    yield (a, b, c)


def half_told_well(test, half):
    """Looks that a half has the one form of point 6."""
    test.assertIs(type(half), tuple)
    test.assertEqual(len(half), 3)
    for number in half:
        whole(test, number)
    test.assertNotEqual(half[:2], (0, 0))
    test.assertEqual(gcd(*half), 1)


def spot_told_well(test, spot):
    test.assertIs(type(spot), tuple)
    test.assertEqual(len(spot), 2)
    fraction(test, spot[0])
    fraction(test, spot[1])


def count_in(half, points):
    return sum(1 for point in points if worth(half, point) >= 0)


def nothing_shared(test, halves, weights):
    """Looks that the weights show of two or three halves that they share no spot."""
    test.assertIs(type(weights), list)
    test.assertIn(len(halves), (2, 3))
    test.assertEqual(len(weights), len(halves))
    for weight in weights:
        whole(test, weight)
        test.assertGreaterEqual(weight, 1)
    sums = [sum(weight * half[k] for weight, half in zip(weights, halves)) for k in range(3)]
    test.assertEqual(sums[:2], [0, 0])
    test.assertGreater(sums[2], 0)


def holders(points, at):
    """The places of one, two or three points that have the spot in their hull; what has it holds such ones."""
    many = range(len(points))
    found = [(one,) for one in many if points[one] == at]
    for one, other in combinations(many, 2):
        if points[one] != at != points[other] and on_piece(points[one], points[other], at):
            found.append((one, other))
    for one, other, third in combinations(many, 3):
        turns = [
            left(points[one], points[other], at), left(points[other], points[third], at),
            left(points[third], points[one], at),
        ]
        if min(turns) > 0 or max(turns) < 0:
            found.append((one, other, third))
    return [sum(1 << place for place in places) for places in found]


def depth_by_taking(points, at):
    """The least number of points to be taken away so that the spot is out of the hull of the others.

    The spot is out of a hull just where some half holds it and none of the hull's points. That a triangle has it on
    a side is told by the side's two points already.
    """
    masks = holders(points, at)
    for many in range(len(points) + 1):
        for places in combinations(range(len(points)), many):
            taken = sum(1 << place for place in places)
            if all(mask & taken for mask in masks):
                return many


def crossings(points):
    """The points, and where lines through two of them cross: the corners of all regions of depth are among them."""
    unlike = sorted(set(points))
    found = {(Fraction(x), Fraction(y)) for x, y in unlike}
    lines = []
    for one, other in combinations(unlike, 2):
        a = one[1] - other[1]
        b = other[0] - one[0]
        lines.append((a, b, a * one[0] + b * one[1]))
    for one, other in combinations(lines, 2):
        bottom = one[0] * other[1] - one[1] * other[0]
        if bottom != 0:
            x = Fraction(one[2] * other[1] - one[1] * other[2], bottom)
            y = Fraction(one[0] * other[2] - one[2] * other[0], bottom)
            found.add((x, y))
    return sorted(found)


NAMED_HEAPS = {
    "one point": [(2, -3)],
    "two alike": [(2, -3), (2, -3)],
    "all alike": [(-1, 4)] * 5,
    "two unlike": [(0, 0), (3, 1)],
    "two alike and one": [(0, 0), (3, 1), (0, 0)],
    "slanted line": [(0, 0), (4, 2), (2, 1), (6, 3), (-2, -1)],
    "upright line": [(3, 5), (3, -1), (3, 0), (3, 9)],
    "level line": [(5, 3), (-1, 3), (0, 3), (9, 3), (0, 3)],
    "line with alike ones": [(0, 0), (1, -1), (1, -1), (1, -1), (2, -2), (5, -5)],
    "triangle": [(0, 0), (4, 1), (1, 3)],
    "alike corners": [(0, 0), (4, 1), (1, 3)] * 2,
    "square": [(0, 0), (4, 0), (4, 4), (0, 4)],
    "square with its middle": [(0, 0), (4, 0), (4, 4), (0, 4), (2, 2)],
    "five corners": [(0, 0), (6, 0), (8, 5), (3, 9), (-2, 5)],
    "six points, two triangles": [(0, 0), (12, 0), (6, 11), (5, 3), (7, 3), (6, 5)],
    "cross": [(0, 0), (1, 0), (-1, 0), (0, 1), (0, -1), (0, 0)],
    "all but one alike": [(1, 1), (1, 1), (1, 1), (1, 1), (0, 5)],
}


def some_heaps(least=1, most=7):
    """Lists of points: the named ones, and some by lot (always the same) on small grids, so that many are in line."""
    heaps = [list(points) for points in NAMED_HEAPS.values() if least <= len(points) <= most]
    lot = Random(20)
    for many in range(least, most + 1):
        for wide in (1, 2, 4, 30):
            heaps.append([(lot.randint(-wide, wide), lot.randint(-wide, wide)) for _ in range(many)])
    return heaps


def long_heap(many, figures=40):
    lot = Random(many)
    top = 10 ** figures
    return [(lot.randint(-top, top), lot.randint(-top, top)) for _ in range(many)]


def some_spots(points):
    """Spots on and off the points and their lines, between, beside and far outside."""
    spots = crossings(points)[:40]
    xs = sorted(set(point[0] for point in points))
    ys = sorted(set(point[1] for point in points))
    spots += [(Fraction(xs[0] + xs[-1], 2), Fraction(ys[0] + ys[-1], 2)), (Fraction(xs[0]), Fraction(ys[-1]))]
    for one, other in list(combinations(points, 2))[:10]:
        spots.append((Fraction(one[0] + other[0], 2), Fraction(one[1] + other[1], 2)))
        spots.append((Fraction(one[0] + 2 * other[0], 3), Fraction(one[1] + 2 * other[1], 3) + Fraction(1, 7)))
        spots.append((Fraction(2 * one[0] - other[0]), Fraction(2 * one[1] - other[1])))
    spots += [(Fraction(xs[0] - 1000), Fraction(0)), (Fraction(1, 3), Fraction(ys[-1] + 1000))]
    return [spot_of(*spot) for spot in dict.fromkeys(spots)]
