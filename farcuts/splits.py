"""Splits: what of a long table cuts part, and the rest that none parts."""

from farcuts.cuts import all_sides, do_cross, table_of
from farcuts.errors import NoTable
from farcuts.fours import weight_by, weighted_by
from farcuts.fractions import minus
from farcuts.pairs import pairs_of
from farcuts.tables import first_short


def check_long(table):
    if first_short(table) is not None:
        raise NoTable("some way round in the table is shorter")


def split_rule(sums):
    return max(sums) - sums[0]


def cut_index(table, cut):
    check_long(table)
    return weight_by(table, cut, split_rule)


def splits_of(table):
    check_long(table)
    return weighted_by(table, split_rule)


def rest_table(table):
    parted = table_of(len(table), splits_of(table))
    rest = []
    for row, parted_row in zip(table, parted):
        rest.append([minus(q, r) for q, r in zip(row, parted_row)])
    return rest


def are_at_odds(sides, other, third):
    # Any two of the four points lie on the same side of just one cut of the three. So the points' sides in the
    # three cuts are the four with an even sum, or the four with an odd one.
    kinds = [(a, b, c) for a, b, c in zip(sides, other, third)]
    even = [kind for kind in kinds if sum(kind) % 2 == 0]
    odd = [kind for kind in kinds if sum(kind) % 2 == 1]
    return len(set(even)) == 4 or len(set(odd)) == 4


def first_at_odds(n, cuts):
    sides = all_sides(n, cuts)
    for a, b in pairs_of(len(sides)):
        # Cuts at odds cross, which is sooner asked of two than the rest of all three.
        if do_cross(sides[a], sides[b]):
            for c in range(b + 1, len(sides)):
                if are_at_odds(sides[a], sides[b], sides[c]):
                    return (a, b, c)
    return None
