"""Lines: tables of points that have places on a line."""

from farcuts.cuts import cut_of
from farcuts.errors import NoTable
from farcuts.fractions import fraction
from farcuts.pairs import pairs_of, rising_tuples
from farcuts.tables import part_of
from farcuts.wholes import table_bottom, table_over


def first_apart(rows):
    for point in range(len(rows)):
        if rows[0][point] > 0:
            return point
    return 0


# Of the two places as far from point 0 as told, at most one is as far from the first point apart from it.
def place_of(rows, apart, point):
    far = rows[0][point]
    if abs(rows[0][apart] - far) == rows[apart][point]:
        return far
    return -far


def fits_places(rows, places):
    for i, j in pairs_of(len(rows)):
        if abs(places[i] - places[j]) != rows[i][j]:
            return False
    return True


def places_of(rows):
    apart = first_apart(rows)
    places = [place_of(rows, apart, point) for point in range(len(rows))]
    return places if fits_places(rows, places) else None


# Each point's place hangs on two others alone, so where a pair does not fit, at most four points show it.
def first_off_line(rows):
    for many in (3, 4):
        for points in rising_tuples(len(rows), many):
            if places_of(part_of(rows, list(points))) is None:
                return points
    return None


def line_told(table):
    bottom = table_bottom(table)
    rows = table_over(bottom, table)
    places = places_of(rows)
    if places is None:
        return ("bars", first_off_line(rows))
    return ("line", [fraction(place, bottom) for place in places])


def cut_beyond(places, least):
    return cut_of(len(places), [point for point, place in enumerate(places) if place >= least])


def line_cuts(table):
    bottom = table_bottom(table)
    places = places_of(table_over(bottom, table))
    if places is None:
        raise NoTable("the points have no places on a line")
    ranked = sorted(set(places))
    weighted = []
    for place, behind in zip(ranked, ranked[1:]):
        weighted.append((cut_beyond(places, behind), fraction(behind - place, bottom)))
    return sorted(weighted)
