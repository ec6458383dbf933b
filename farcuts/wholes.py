"""Fractions over one bottom: so they are added and compared as whole numbers, without a divisor at each step."""

from farcuts.fractions import fraction, greatest_divisor


def shared_bottom(numbers):
    bottom = 1
    for q in numbers:
        bottom = bottom // greatest_divisor(bottom, q[1]) * q[1]
    return bottom


def tops_over(bottom, numbers):
    return [q[0] * (bottom // q[1]) for q in numbers]


def table_bottom(table):
    bottom = 1
    for row in table:
        bottom = shared_bottom([(1, bottom)] + row)
    return bottom


def table_over(bottom, table):
    return [tops_over(bottom, row) for row in table]


def greatest_of(numbers):
    bottom = shared_bottom(numbers)
    return fraction(max(tops_over(bottom, numbers), default=0), bottom)
