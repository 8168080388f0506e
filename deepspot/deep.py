"""Strong halves, the regions of depth that they share, and a deepest spot."""

from deepspot.errors import NoDepth, NoPoints
from deepspot.halves import between, many_in
from deepspot.regions import clipped, hull
from deepspot.sharing import shared


def upright_and_level(point):
    x = point[0]
    y = point[1]
    return [(1, 0, x), (-1, 0, -x), (0, 1, y), (0, -1, -y)]


# Each two points are met in both orders, which gives either side of their border.
def bordered(points):
    found = []
    for one in points:
        found.extend(upright_and_level(one))
        for other in points:
            if one != other:
                found.append(between(one, other))
    return sorted(set(found))


def need_points(points):
    if len(points) == 0:
        raise NoPoints("there are no points")


def strong(points, many):
    need_points(points)
    return [found for found in bordered(points) if many_in(found, points) >= many]


def region(points, k):
    need_points(points)
    if k < 1:
        raise NoDepth("the regions of depth begin with 1")
    if k > len(points):
        return []
    # The halves that hold all the points are strong for every k, and they share just the hull.
    part = hull(points)
    for found in strong(points, len(points) - k + 1):
        part = clipped(part, found)
    return part


def deepest(points):
    need_points(points)
    k = len(points)
    halves = []
    weights = []
    asked = strong(points, 1)
    told = shared(asked)
    # It ends with 1 at the latest, where each point is shared.
    while told[0] == "none":
        halves = [asked[place] for place in told[1]]
        weights = told[2]
        k = k - 1
        asked = strong(points, len(points) - k + 1)
        told = shared(asked)
    return (k, told[1], halves, weights)
