"""Fractions: pairs (a, b) of whole numbers, b above 0, with no divisor above 1 in common."""


def common_divisor(a, b):
    # Of 0 and 0 this is 0: a side from a spot to itself has no steps (herds.py).
    one = abs(a)
    other = abs(b)
    while other > 0:
        rest = one % other
        one = other
        other = rest
    return one


def made(a, b):
    divisor = common_divisor(a, b)
    return (a // divisor, b // divisor)


def plus(one, other):
    return made(one[0] * other[1] + other[0] * one[1], one[1] * other[1])


def times(one, other):
    return made(one[0] * other[0], one[1] * other[1])
