"""What the tests reckon in their own way, with Python's fractions, to hold the program's answers against."""

from fractions import Fraction
from itertools import combinations

from deepspot.errors import NoDepth, NoHalf, NoNumber, NoPoints, NotFour, SpotError

REFUSALS = (NoNumber, NoHalf, NoPoints, NoDepth, NotFour)

# More than thirty figures, and more than Python is willing to write out by itself.
BIG = 10 ** 34 + 7
HUGE = 10 ** 5000 + 3


def refused(test, refusal, ask, *handed):
    """Asks, and looks that just this refusal comes, caught under each of its names."""
    for name in (refusal, SpotError, ValueError):
        with test.assertRaises(name):
            ask(*handed)
    for name in REFUSALS:
        if name is not refusal:
            test.assertNotIsInstance(error_of(ask, handed), name)
    test.assertIs(type(error_of(ask, handed)), refusal)


def error_of(ask, handed):
    try:
        ask(*handed)
    except ValueError as error:
        return error
    return None


def whole(test, number):
    test.assertIs(type(number), int)


def fraction(test, told):
    """Looks that a fraction has the one form of point 4, and gives Python's own."""
    test.assertIs(type(told), tuple)
    test.assertEqual(len(told), 2)
    whole(test, told[0])
    whole(test, told[1])
    test.assertGreaterEqual(told[1], 1)
    value = Fraction(told[0], told[1])
    test.assertEqual((value.numerator, value.denominator), told)
    return value


def place(spot):
    return (Fraction(*spot[0]), Fraction(*spot[1]))


def spot_of(x, y):
    x = Fraction(x)
    y = Fraction(y)
    return ((x.numerator, x.denominator), (y.numerator, y.denominator))


def spots_of(*points):
    return [spot_of(*point) for point in points]


def worth(half, at):
    return half[0] * at[0] + half[1] * at[1] - half[2]


def left(one, other, third):
    return (other[0] - one[0]) * (third[1] - one[1]) - (other[1] - one[1]) * (third[0] - one[0])


def on_piece(one, other, at):
    if left(one, other, at) != 0:
        return False
    return all(min(one[k], other[k]) <= at[k] <= max(one[k], other[k]) for k in (0, 1))


def in_triangle(one, other, third, at):
    turns = (left(one, other, at), left(other, third, at), left(third, one, at))
    return min(turns) >= 0


def where(region, spot):
    """Point 11 by triangles that share the first corner, and by the pieces of the border."""
    corners = [place(corner) for corner in region]
    at = place(spot)
    if any(on_piece(corners[k - 1], corners[k], at) for k in range(len(corners))):
        return 0
    fan = zip(corners[1:-1], corners[2:])
    return 1 if any(in_triangle(corners[0], one, other, at) for one, other in fan) else -1


def told_well(test, region):
    """Looks that a region has the one form of point 8."""
    test.assertIs(type(region), list)
    for spot in region:
        test.assertIs(type(spot), tuple)
        test.assertEqual(len(spot), 2)
        fraction(test, spot[0])
        fraction(test, spot[1])
    corners = [place(spot) for spot in region]
    test.assertEqual(len(set(corners)), len(corners))
    if corners:
        test.assertEqual(min(corners), corners[0])
    if len(corners) > 2:
        for k in range(len(corners)):
            one = corners[k - 1]
            other = corners[k]
            # All others strictly at the left of each side: round just once, nowhere straight on.
            for third in corners:
                if third not in (one, other):
                    test.assertGreater(left(one, other, third), 0)


def some_point_lists():
    """Lists of up to four points of a small grid, and some longer ones."""
    grid = [(x, y) for x in range(3) for y in range(3)]
    for many in range(5):
        for points in combinations(grid, many):
            yield list(points)
    yield grid + grid
    yield [(x, x * x) for x in range(-4, 5)]
    yield [(x * x, -x) for x in range(-3, 4)] + [(0, 0)] * 3
    yield [(0, 0), (7, 1), (9, 4), (8, 8), (3, 9), (-2, 6), (-3, 2), (4, 4)]


def some_halves():
    for a in range(-2, 3):
        for b in range(-2, 3):
            for c in range(-3, 6):
                if (a, b) != (0, 0):
                    yield (a, b, c)
