"""What halves share: a spot that all of them hold, or two or three that hold none together, with weights."""

from deepspot.halves import along, side
from deepspot.ratios import below, divisor, ratio


# Above 0 where other faces to the left of where one faces, 0 where their borders go side by side.
def across(one, other):
    return one[0] * other[1] - one[1] * other[0]


# The border of (a, b, c), n being a a + b b, is walked by steps: at step s lies ((a c - b s) / n, (b c + a s) / n).
def spot_at(border, step):
    bottom = along(border, border) * step[1]
    x = border[0] * border[2] * step[1] - border[1] * step[0]
    y = border[1] * border[2] * step[1] + border[0] * step[0]
    return (ratio(x, bottom), ratio(y, bottom))


# Of the border's spots another half holds those whose step, multiplied by across, comes to this or more.
def asked(border, other):
    return other[2] * along(border, border) - along(border, other) * border[2]


# The step where two borders that cross meet, with a bottom above 0. It is left undivided: it is mostly just compared.
def meeting(border, other):
    top = asked(border, other)
    bottom = across(border, other)
    if bottom < 0:
        return (-top, -bottom)
    return (top, bottom)


# The step that the border's spots begin with and the one they end with, each with the place of the half that asks
# for it; None where no half does.
def limits(border, halves):
    first = None
    last = None
    for place in range(len(halves)):
        facing = across(border, halves[place])
        step = meeting(border, halves[place])
        if facing > 0 and (first is None or below(first[0], step)):
            first = (step, place)
        if facing < 0 and (last is None or below(step, last[0])):
            last = (step, place)
    return (first, last)


# A half whose border goes side by side with this one sets no limit: it holds all of it or, as these, nothing.
def apart(border, halves):
    return [
        place for place in range(len(halves))
        if across(border, halves[place]) == 0 and asked(border, halves[place]) > 0
    ]


# The places of one or two halves that hold no spot of the border together, or no place where all of them hold one.
def clash(border, halves, ends):
    if ends[0] is not None and ends[1] is not None and below(ends[1][0], ends[0][0]):
        return [ends[0][1], ends[1][1]]
    return apart(border, halves)[:1]


def spot_between(border, ends):
    for end in ends:
        if end is not None:
            return spot_at(border, end[0])
    return spot_at(border, (0, 1))


def lowered(weights):
    common = 0
    for weight in weights:
        common = divisor(common, weight)
    return [weight // common for weight in weights]


# Two that clash face straight against each other, so each weighs as much as the other is long. Three are balanced
# where each weighs as much as the others are across; if they clash, these weights all have the same sign.
def weights_of(chosen):
    one = chosen[0]
    other = chosen[1]
    if len(chosen) == 2:
        return lowered([abs(other[0]) + abs(other[1]), abs(one[0]) + abs(one[1])])
    third = chosen[2]
    return lowered([abs(across(other, third)), abs(across(third, one)), abs(across(one, other))])


def none_shared(halves, places):
    return ("none", places, weights_of([halves[place] for place in places]))


def shared(halves):
    spot = ((0, 1), (0, 1))
    for place in range(len(halves)):
        border = halves[place]
        if side(border, spot) < 0:
            # All halves before hold the spot, which lies beyond this one. If they share a spot with this one, they
            # share one on its border, too, on the way there. If not, some clash on the border; these share the spot
            # beyond it, and so nothing on its other side.
            before = halves[:place]
            ends = limits(border, before)
            places = clash(border, before, ends)
            if len(places) > 0:
                return none_shared(halves, sorted(places + [place]))
            spot = spot_between(border, ends)
    return ("spot", spot)
