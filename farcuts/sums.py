"""Sums: whether a table is a sum of cuts at all, and by which cuts it can be one."""

from farcuts.cuts import all_cuts, check_cut, sides_of
from farcuts.errors import TooMany
from farcuts.fractions import fraction
from farcuts.pairs import distances_of, pairs_of
from farcuts.weighing import Scales
from farcuts.wholes import shared_bottom, tops_over

MOST_TOLD = 7
MOST_LOOKED_THROUGH = 6


def check_many(table, most):
    if len(table) > most:
        raise TooMany(f"this is told of tables of at most {most} points")


def parted_pairs(n, cut):
    sides = sides_of(n, cut)
    return [1 if sides[i] != sides[j] else 0 for i, j in pairs_of(n)]


def scales_of(table):
    n = len(table)
    distances = distances_of(table)
    columns = [parted_pairs(n, cut) for cut in all_cuts(n)]
    return Scales(columns, tops_over(shared_bottom(distances), distances))


def weighed_cuts(table, scales):
    bottom = scales.scale * shared_bottom(distances_of(table))
    tops = scales.weight_tops()
    return [(cut, fraction(top, bottom)) for cut, top in zip(all_cuts(len(table)), tops) if top > 0]


def sum_told(table):
    check_many(table, MOST_TOLD)
    scales = scales_of(table)
    if scales.empty_fillers():
        return ("cuts", weighed_cuts(table, scales))
    return ("bars", [(number, 1) for number in scales.bars()])


def possible_cuts(table):
    check_many(table, MOST_LOOKED_THROUGH)
    scales = scales_of(table)
    if not scales.empty_fillers():
        return []
    possible = []
    for number, cut in enumerate(all_cuts(len(table))):
        if scales.lift(number):
            possible.append(cut)
    return possible


def sum_with(table, cut):
    check_many(table, MOST_LOOKED_THROUGH)
    check_cut(len(table), cut)
    scales = scales_of(table)
    if scales.empty_fillers() and scales.lift(all_cuts(len(table)).index(cut)):
        return weighed_cuts(table, scales)
    return None
