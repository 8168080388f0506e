"""Regions: lists of the corners of convex parts of the plane, going round to the left from the least one."""

from deepspot.halves import as_spot, bottoms, excess, side, sign
from deepspot.ratios import below, ratio


def lesser(one, other):
    if one[0] == other[0]:
        return below(one[1], other[1])
    return below(one[0], other[0])


# Both fractions over one common bottom, (x, y, bottom), so that turns are reckoned without dividing.
def stretched(spot):
    return (spot[0][0] * spot[1][1], spot[1][0] * spot[0][1], bottoms(spot))


# Above 0 where third lies at the left hand of who goes from one to other, 0 where straight on.
def turn(one, other, third):
    here = stretched(one)
    there = stretched(other)
    a = here[1] * there[2] - here[2] * there[1]
    b = here[2] * there[0] - here[0] * there[2]
    c = here[1] * there[0] - here[0] * there[1]
    return excess((a, b, c), third)


def chain(spots):
    kept = []
    for spot in spots:
        while len(kept) > 1 and turn(kept[-2], kept[-1], spot) <= 0:
            kept.pop()
        kept.append(spot)
    return kept


def hull(points):
    spots = [as_spot(point) for point in sorted(set(points))]
    if len(spots) < 2:
        return spots
    under = chain(spots)
    above = chain(list(reversed(spots)))
    # Each chain ends with the spot that the other one begins with.
    return under[:-1] + above[:-1]


# A stretch has two sides here, there and back, and a spot alone has one, from itself to itself.
def sides(region):
    return [(region[place - 1], region[place]) for place in range(len(region))]


def from_least(corners):
    first = 0
    for place in range(len(corners)):
        if lesser(corners[place], corners[first]):
            first = place
    return corners[first:] + corners[:first]


def mixed(one, one_weight, other, other_weight):
    top = one[0] * other[1] * one_weight + other[0] * one[1] * other_weight
    return ratio(top, one[1] * other[1] * (one_weight + other_weight))


# The farther an end lies from the border, the more the other end weighs.
def crossing(half, one, other):
    one_weight = abs(excess(half, other)) * bottoms(one)
    other_weight = abs(excess(half, one)) * bottoms(other)
    x = mixed(one[0], one_weight, other[0], other_weight)
    y = mixed(one[1], one_weight, other[1], other_weight)
    return (x, y)


def clipped(region, half):
    kept = []
    for pair in sides(region):
        if side(half, pair[0]) * side(half, pair[1]) < 0:
            spot = crossing(half, pair[0], pair[1])
            # A stretch is crossed at the same spot there and back.
            if spot not in kept:
                kept.append(spot)
        if side(half, pair[1]) >= 0:
            kept.append(pair[1])
    return from_least(kept)


def on_stretch(first, last, spot):
    if turn(first, last, spot) != 0:
        return False
    return not lesser(spot, first) and not lesser(last, spot)


def lies_in(region, spot):
    if len(region) == 0:
        return -1
    if len(region) < 3:
        return 0 if on_stretch(region[0], region[-1], spot) else -1
    # The worst side decides: right of one is outside, straight on with one is on the border.
    return min([sign(turn(pair[0], pair[1], spot)) for pair in sides(region)])
