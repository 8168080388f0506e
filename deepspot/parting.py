"""Four points in two parts that meet, and the ranks of points."""

from deepspot.depths import depth
from deepspot.errors import NotFour
from deepspot.halves import as_spot
from deepspot.ratios import ratio
from deepspot.regions import turn


# Each of four points weighs the room between the others, with signs by turns.
def weights_in_plane(points):
    spots = [as_spot(point) for point in points]
    one = spots[0]
    other = spots[1]
    third = spots[2]
    last = spots[3]
    return [turn(other, third, last), -turn(one, third, last), turn(one, other, last), -turn(one, other, third)]


# Of three points on a line each weighs the way between the others; the fourth point isn't needed.
def weights_on_line(points):
    if points[0] == points[1]:
        return [1, -1, 0, 0]
    # On an upright line all have one x, so there the ways are told by y.
    axis = 1 if points[0][0] == points[1][0] else 0
    one = points[0][axis]
    other = points[1][axis]
    third = points[2][axis]
    return [other - third, third - one, one - other, 0]


# Whole numbers, some above 0 and some below, that come to 0, as does the sum of each times its point.
def balance(points):
    weights = weights_in_plane(points)
    if weights == [0, 0, 0, 0]:
        return weights_on_line(points)
    return weights


def middle(points, weights, axis):
    top = sum([weights[place] * points[place][axis] for place in range(len(points))])
    return ratio(top, sum(weights))


def shares(weights):
    return [ratio(weight, sum(weights)) for weight in weights if weight != 0]


def places_of(weights):
    return [place for place in range(len(weights)) if weights[place] != 0]


def parted(points):
    if len(points) != 4:
        raise NotFour("only four points are parted")
    weights = balance(points)
    first = [max(weight, 0) for weight in weights]
    second = [max(-weight, 0) for weight in weights]
    spot = (middle(points, first, 0), middle(points, first, 1))
    return (places_of(first), places_of(second), shares(first), shares(second), spot)


def ranks(points):
    return [depth(points, as_spot(point))[0] for point in points]
