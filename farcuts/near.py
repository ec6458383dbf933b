"""The nearest sum: weighted cuts whose table is off by the least there is, and a row that shows that none is nearer."""

from farcuts.cuts import all_cuts, table_of
from farcuts.fractions import fraction, minus
from farcuts.pairs import distances_of, pairs_of
from farcuts.papers import bars_no_cut, is_row_for
from farcuts.sums import check_many, parted_pairs
from farcuts.weighing import Scales
from farcuts.wholes import greatest_of, shared_bottom, tops_over

MOST_POINTS = 5


def fault_of(table, cuts):
    own = table_of(len(table), cuts)
    apart = [minus(q, r) for q, r in zip(distances_of(table), distances_of(own))]
    return greatest_of([(abs(q[0]), q[1]) for q in apart])


# A row is sought as what it has above 0 and, in columns behind those, what it has below 0. Each cut parts 0 of it at
# most, and all together is 1 at most: the last row of the scales.
def scales_of_rows(n):
    parted = [parted_pairs(n, cut) for cut in all_cuts(n)]
    above = []
    below = []
    for place in range(len(pairs_of(n))):
        above.append([row[place] for row in parted] + [1])
        below.append([-row[place] for row in parted] + [1])
    return Scales(above + below, [0] * len(parted) + [1])


def found_row(scales, pairs):
    tops = scales.weight_tops()
    return [fraction(up - down, scales.scale) for up, down in zip(tops[:pairs], tops[pairs:])]


# The best row's worth is the nearest fault, and what more of a cut would be worth to it is the cut's weight: the two
# tasks are each other's reverse.
def nearest_sum(table):
    check_many(table, MOST_POINTS)
    n = len(table)
    distances = distances_of(table)
    bottom = shared_bottom(distances)
    far = tops_over(bottom, distances)
    scales = scales_of_rows(n)
    worths = scales.climb(far + [-top for top in far])
    bottom = bottom * scales.scale
    cuts = [(cut, fraction(top, bottom)) for cut, top in zip(all_cuts(n), worths) if top > 0]
    return (fraction(worths[-1], bottom), cuts, found_row(scales, len(far)))


def worth_of(table, row):
    distances = distances_of(table)
    bottom = shared_bottom(row)
    far_bottom = shared_bottom(distances)
    products = [a * b for a, b in zip(tops_over(bottom, row), tops_over(far_bottom, distances))]
    return fraction(sum(products), bottom * far_bottom)


def row_shows(table, row, number):
    n = len(table)
    if not is_row_for(n, row):
        return False
    bottom = shared_bottom(row)
    tops = tops_over(bottom, row)
    if sum([abs(top) for top in tops]) > bottom:
        return False
    return bars_no_cut(n, [-top for top in tops]) and worth_of(table, row) == number
