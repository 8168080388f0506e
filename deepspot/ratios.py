"""Fractions: tuples (top, bottom) in lowest terms, the bottom from 1 on."""

from deepspot.errors import NoNumber


def divisor(one, other):
    greater = abs(one)
    lesser = abs(other)
    while lesser != 0:
        rest = greater % lesser
        greater = lesser
        lesser = rest
    return greater


def ratio(top, bottom):
    if bottom == 0:
        # The words leave the numbers out: Python refuses to write very long ones.
        raise NoNumber("nothing is divided by 0")
    common = divisor(top, bottom)
    # Only the top bears a sign, so that each fraction has one form.
    if bottom < 0:
        common = -common
    return (top // common, bottom // common)


def below(one, other):
    # Both bottoms are above 0, so multiplying by them keeps the order.
    return one[0] * other[1] < other[0] * one[1]
