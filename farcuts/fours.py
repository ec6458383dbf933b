"""Four points and their three sums, and the weights that cuts get by the least of a rule over such fours."""

from farcuts.cuts import all_cuts
from farcuts.fractions import fraction
from farcuts.wholes import table_bottom, table_over


def three_sums(rows, i, j, k, l):
    return (rows[i][j] + rows[k][l], rows[i][k] + rows[j][l], rows[i][l] + rows[j][k])


def doubles_of(points):
    doubles = []
    for place, point in enumerate(points):
        for other in points[place:]:
            doubles.append((point, other))
    return doubles


def least_over_sides(rows, cut, rule):
    others = [point for point in range(len(rows)) if point not in cut]
    beyond = doubles_of(others)
    least = rule(three_sums(rows, cut[0], cut[0], 0, 0))
    for a, b in doubles_of(cut):
        for c, e in beyond:
            least = min(least, rule(three_sums(rows, a, b, c, e)))
        # A cut with a least of 0 or below has no weight, however far below it may go.
        if least <= 0:
            return 0
    return least


def weight_by(table, cut, rule):
    bottom = table_bottom(table)
    least = least_over_sides(table_over(bottom, table), cut, rule)
    return fraction(least, 2 * bottom)


def weighted_by(table, rule):
    bottom = table_bottom(table)
    rows = table_over(bottom, table)
    weighted = []
    for cut in all_cuts(len(table)):
        least = least_over_sides(rows, cut, rule)
        if least > 0:
            weighted.append((cut, fraction(least, 2 * bottom)))
    return weighted
