"""Fractions: tuples (top, bottom) in lowest terms, bottom from 1 on."""

from hostfields.errors import NoNumber


def ratio(top, bottom):
    if bottom == 0:
        raise NoNumber("a fraction's bottom is not 0")
    divisor = common_divisor(abs(top), abs(bottom))
    # The sign goes to the top, so that equal fractions are equal tuples.
    if bottom < 0:
        divisor = -divisor
    return (top // divisor, bottom // divisor)


def common_divisor(one, other):
    while other != 0:
        rest = one % other
        one = other
        other = rest
    return one


def plus(one, other):
    return ratio(one[0] * other[1] + other[0] * one[1], one[1] * other[1])


def minus(one, other):
    return ratio(one[0] * other[1] - other[0] * one[1], one[1] * other[1])


def times(one, other):
    return ratio(one[0] * other[0], one[1] * other[1])


def below(one, other):
    # Bottoms are above 0, so multiplying by both keeps the order.
    return one[0] * other[1] < other[0] * one[1]
