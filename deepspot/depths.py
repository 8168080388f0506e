"""How deep a spot lies among points, and a half that shows it."""

from deepspot.errors import NoPoints
from deepspot.halves import along, half
from deepspot.regions import stretched


# From the spot to each point, multiplied by the spot's bottom.
def ways_to(points, spot):
    here = stretched(spot)
    return [(point[0] * here[2] - here[0], point[1] * here[2] - here[1]) for point in points]


def many_ahead(ways, facing):
    return len([way for way in ways if along(way, facing) >= 0])


# Who faces to the left of a way has its point on the border. A hair further round the point is behind, and the hair
# is so thin that only what was on the border has changed sides.
def just_past(way, ways):
    thin = 1 + max([abs(along(way, other)) for other in ways])
    return (-way[1] * thin - way[0], way[0] * thin - way[1])


# Who turns round on the spot to the left has less points ahead only once one gets behind, so that there are nowhere
# less of them than just past one of the points.
def facings(ways):
    found = [just_past(way, ways) for way in ways if way != (0, 0)]
    # Where all points are on the spot, every half that has it holds them all.
    found.append((1, 0))
    return found


def half_facing(facing, spot):
    here = stretched(spot)
    return half(facing[0] * here[2], facing[1] * here[2], along(facing, here))


def depth(points, spot):
    if len(points) == 0:
        raise NoPoints("no spot has a depth among no points")
    ways = ways_to(points, spot)
    emptiest = min(facings(ways), key=lambda facing: many_ahead(ways, facing))
    return (many_ahead(ways, emptiest), half_facing(emptiest, spot))
