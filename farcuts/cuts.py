"""Cuts: the points in two sides, told by the side that has not point 0, and sums of weighted cuts."""

from farcuts.errors import NoCut
from farcuts.fractions import fraction, is_fraction, is_whole
from farcuts.pairs import pairs_of, table_of_pairs
from farcuts.wholes import shared_bottom, tops_over


def is_rising(things):
    for one, behind in zip(things, things[1:]):
        if not one < behind:
            return False
    return True


def is_cut(n, thing):
    if not isinstance(thing, list) or len(thing) == 0:
        return False
    for point in thing:
        if not is_whole(point):
            return False
    return is_rising(thing) and thing[0] >= 1 and thing[-1] < n


def check_cut(n, thing):
    if not is_cut(n, thing):
        raise NoCut("a cut is a rising list of points, one at least, none 0")


def check_points(n, points):
    for point in points:
        if not is_whole(point) or not 0 <= point < n:
            raise NoCut("a side of a cut has points alone")


def cut_of(n, points):
    check_points(n, points)
    others = [point for point in range(n) if point not in points]
    if len(points) == 0 or len(others) == 0:
        raise NoCut("each side of a cut has a point")
    if 0 in points:
        return others
    return sorted(set(points))


def all_cuts(n):
    sides = [[]]
    for point in range(1, n):
        sides = sides + [side + [point] for side in sides]
    return [side for side in sorted(sides) if len(side) > 0]


def is_weighted_cut(n, thing):
    if not isinstance(thing, tuple) or len(thing) != 2:
        return False
    return is_cut(n, thing[0]) and is_fraction(thing[1]) and thing[1][0] > 0


def is_weighted(n, thing):
    if not isinstance(thing, list):
        return False
    for weighted in thing:
        if not is_weighted_cut(n, weighted):
            return False
    return is_rising([weighted[0] for weighted in thing])


def sides_of(n, cut):
    return [1 if point in cut else 0 for point in range(n)]


def all_sides(n, cuts):
    return [sides_of(n, weighted[0]) for weighted in cuts]


def table_of(n, cuts):
    weights = [weighted[1] for weighted in cuts]
    bottom = shared_bottom(weights)
    tops = tops_over(bottom, weights)
    sides = all_sides(n, cuts)
    distances = []
    for i, j in pairs_of(n):
        parting = [top for side, top in zip(sides, tops) if side[i] != side[j]]
        distances.append(fraction(sum(parting), bottom))
    return table_of_pairs(n, distances)


def do_cross(sides, other):
    return len(set([(a, b) for a, b in zip(sides, other)])) == 4


def first_crossing(n, cuts):
    sides = all_sides(n, cuts)
    for a, b in pairs_of(len(sides)):
        if do_cross(sides[a], sides[b]):
            return (a, b)
    return None
