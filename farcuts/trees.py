"""Trees: tables that are sums of cuts of which no two cross."""

from farcuts.cuts import check_cut
from farcuts.fours import three_sums, weight_by, weighted_by
from farcuts.pairs import rising_tuples
from farcuts.tables import first_short
from farcuts.wholes import table_bottom, table_over


def tree_rule(sums):
    # The rule goes over both orders of the two points beyond, so the lesser of both sums is meant.
    return min(sums[1], sums[2]) - sums[0]


def tree_weight(table, cut):
    check_cut(len(table), cut)
    return weight_by(table, cut, tree_rule)


def is_one_alone_greatest(sums):
    ranked = sorted(sums)
    return ranked[1] < ranked[2]


def first_four(rows):
    for i, j, k, l in rising_tuples(len(rows), 4):
        if is_one_alone_greatest(three_sums(rows, i, j, k, l)):
            return (i, j, k, l)
    return None


def first_bars(table):
    short = first_short(table)
    if short is not None:
        return short
    return first_four(table_over(table_bottom(table), table))


def tree_told(table):
    bars = first_bars(table)
    if bars is not None:
        return ("bars", bars)
    return ("tree", weighted_by(table, tree_rule))
