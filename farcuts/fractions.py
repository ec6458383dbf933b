"""Fractions: tuples (top, bottom) of whole numbers in least numbers, the bottom from 1 on."""

from farcuts.errors import NoNumber


def is_whole(thing):
    # Python counts True and False among its ints, the document does not.
    return isinstance(thing, int) and not isinstance(thing, bool)


def greatest_divisor(a, b):
    a = abs(a)
    b = abs(b)
    while b != 0:
        left = a % b
        a = b
        b = left
    return a


def is_fraction(thing):
    if not isinstance(thing, tuple) or len(thing) != 2:
        return False
    if not is_whole(thing[0]) or not is_whole(thing[1]):
        return False
    return thing[1] >= 1 and greatest_divisor(thing[0], thing[1]) == 1


def in_least(top, bottom):
    shared = greatest_divisor(top, bottom)
    # A divisor below 0 turns both signs, so the bottom ends above 0.
    if bottom < 0:
        shared = -shared
    return (top // shared, bottom // shared)


def fraction(top, bottom):
    if not is_whole(top) or not is_whole(bottom) or bottom == 0:
        raise NoNumber("a fraction is made of two whole numbers, the second not 0")
    return in_least(top, bottom)


def plus(q, r):
    return in_least(q[0] * r[1] + r[0] * q[1], q[1] * r[1])


def minus(q, r):
    return in_least(q[0] * r[1] - r[0] * q[1], q[1] * r[1])


def times(q, r):
    return in_least(q[0] * r[0], q[1] * r[1])


def divided(q, r):
    if r[0] == 0:
        raise NoNumber("there is no quotient by 0")
    return in_least(q[0] * r[1], q[1] * r[0])


def is_below(q, r):
    return q[0] * r[1] < r[0] * q[1]


def show_fraction(q):
    top = str(q[0])
    if q[1] == 1:
        return top
    return top + "/" + str(q[1])
