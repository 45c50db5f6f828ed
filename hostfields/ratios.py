"""Fractions: tuples (top, bottom) in lowest terms, bottom from 1 on."""

from hostfields.errors import NoNumber
from hostfields.wholes import is_from, is_whole


def ratio(top, bottom):
    if bottom == 0:
        raise NoNumber("a fraction's bottom is not 0")
    divisor = common_divisor(abs(top), abs(bottom))
    # The sign goes to the top, so that equal fractions are equal tuples.
    if bottom < 0:
        divisor = -divisor
    return (top // divisor, bottom // divisor)


def is_fraction(thing):
    if not isinstance(thing, tuple) or len(thing) != 2:
        return False
    return is_whole(thing[0]) and is_from(thing[1], 1) and common_divisor(abs(thing[0]), thing[1]) == 1


def common_divisor(one, other):
    while other != 0:
        rest = one % other
        one = other
        other = rest
    return one


def plus(one, other):
    return ratio(one[0] * other[1] + other[0] * one[1], one[1] * other[1])


def minus(one, other):
    return ratio(one[0] * other[1] - other[0] * one[1], one[1] * other[1])


def times(one, other):
    return ratio(one[0] * other[0], one[1] * other[1])


def below(one, other):
    # Bottoms are above 0, so multiplying by both keeps the order.
    return one[0] * other[1] < other[0] * one[1]
